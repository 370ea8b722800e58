package super

import (
	"encoding/binary"
	"hash/crc32"
	"math"
	"slices"
	"strings"
	"testing"

	"treenail/api"
	"treenail/env"
	"treenail/sum"
)

// wide: a bit that four bytes have no place for, so that a number with it looks there like one without it.
const wide = 1 << 32

var (
	sizes      = []int{128, 129, 191, 192, 255, 256, 1000, 1023, 1024}
	notSizes   = []int{127, 1025, 0, 1, 29, 53, 64, -1, -128, 2048, 65536, wide + 128, math.MinInt, math.MaxInt}
	addrs      = []int{0, 1, 2, 255, 256, 65536, 1 << 24, 1<<31 - 2, 1<<31 - 1}
	notAddrs   = []int{-1, 1 << 31, 1<<31 + 1, 1<<32 - 1, wide, wide + 7, -wide, math.MinInt, math.MaxInt}
	heights    = []int{1, 2, 3, 31, 32}
	notHeights = []int{0, -1, -32, 33, 34, 64, 255, 256, 257, 288, wide, wide + 1, -wide + 1, math.MinInt, math.MaxInt}
	gens       = []uint64{1, 2, 3, 255, 256, 257, 1<<32 - 1, 1 << 32, 1<<63 - 1, 1 << 63, math.MaxUint64 - 1, math.MaxUint64}
	seqs       = []uint64{0, 1, 255, 256, 1 << 32, 1<<63 - 1, 1 << 63, math.MaxUint64}
	sums       = []uint32{0, 1, 255, 256, 1 << 31, math.MaxUint32}
	castagnoli = crc32.MakeTable(crc32.Castagnoli)
	some       = Block{6, env.Ptr{Addr: 17, Gen: 5, Sum: 0xabcdef}, 3, 258, 9}
)

// raw is an image as the chapters write it down, of parts that needn't be right; a second maker, which shares nothing with the program.
type raw struct {
	kind    byte
	addr    uint32
	gen     uint64
	payload string
}

func rawOf(b Block) raw {
	return raw{1, uint32(b.Gen & 1), b.Gen, payloadOf(uint32(b.Root.Addr), b.Root.Gen, b.Root.Sum, byte(b.Height), b.Seq, b.Chain)}
}

func payloadOf(addr uint32, gen uint64, check uint32, height byte, seq uint64, chain uint32) string {
	b := binary.LittleEndian.AppendUint32(nil, addr)
	b = binary.LittleEndian.AppendUint64(b, gen)
	b = binary.LittleEndian.AppendUint32(b, check)
	b = append(b, height)
	b = binary.LittleEndian.AppendUint64(b, seq)
	return string(binary.LittleEndian.AppendUint32(b, chain))
}

// image: with the right check, so that no other part is told by it.
func (r raw) image(size int) string {
	return r.with(size, crc32.Checksum([]byte(r.with(size, 0)), castagnoli))
}

func (r raw) with(size int, check uint32) string {
	b := append([]byte("TRNL"), r.kind, 0)
	b = binary.LittleEndian.AppendUint16(b, uint16(len(r.payload)))
	b = binary.LittleEndian.AppendUint32(b, r.addr)
	b = binary.LittleEndian.AppendUint64(b, r.gen)
	b = binary.LittleEndian.AppendUint32(b, check)
	return string(b) + r.payload + strings.Repeat("\x00", size-24-len(r.payload))
}

func flipped(s string, at int, by byte) string {
	return s[:at] + string([]byte{s[at] ^ by}) + s[at+1:]
}

// changed: the superblock with one part another one.
func (b Block) changed(f func(*Block)) Block {
	f(&b)
	return b
}

func images(t *testing.T, b Block, size int) string {
	t.Helper()
	image, e := b.Image(sum.Make(), size)
	if e != api.OK {
		t.Fatalf("%v.Image(%d): %v", b, size, e)
	}
	return image
}

func refusesImage(t *testing.T, c *sum.Table, b Block, size int, want api.Errno) {
	t.Helper()
	if image, e := b.Image(c, size); image != "" || e != want {
		t.Errorf("%v.Image(%d) = %q, %v, not %v", b, size, image, e, want)
	}
}

func opens(t *testing.T, image string, want Block) {
	t.Helper()
	if b, e := Open(sum.Make(), image); b != want || e != api.OK {
		t.Errorf("Open(%q) = %v, %v, not %v", image, b, e, want)
	}
}

// refusesOpen: and none of the newest is of that image.
func refusesOpen(t *testing.T, c *sum.Table, image string, want api.Errno) {
	t.Helper()
	if b, e := Open(c, image); b != (Block{}) || e != want {
		t.Errorf("Open(%q) = %v, %v, not %v", image, b, e, want)
	}
	noneIsNewest(t, c, image)
}

func newest(t *testing.T, want Block, images ...string) {
	t.Helper()
	if b, ok := Newest(sum.Make(), images...); b != want || !ok {
		t.Errorf("the newest of %d: %v, %v, not %v", len(images), b, ok, want)
	}
}

func noneIsNewest(t *testing.T, c *sum.Table, images ...string) {
	t.Helper()
	if b, ok := Newest(c, images...); b != (Block{}) || ok {
		t.Errorf("the newest of %d, of which there is none: %v, %v", len(images), b, ok)
	}
}

// each: superblocks of every part's edges, with the others as they come.
func each() []Block {
	var all []Block
	for k, gen := range gens {
		for j, height := range heights {
			n := k*len(heights) + j
			roots := []uint64{0, 1, gen - 1, gen, gen / 2}
			root := env.Ptr{Addr: addrs[n%len(addrs)], Gen: roots[j], Sum: sums[n%len(sums)]}
			all = append(all, Block{gen, root, height, seqs[n%len(seqs)], sums[k%len(sums)]})
		}
	}
	return all
}

// notBlocks: one part of each isn't a superblock's.
func notBlocks() []Block {
	all := []Block{{}, some.changed(func(b *Block) { b.Gen = 0 }), some.changed(func(b *Block) { b.Gen, b.Root.Gen = 0, 0 })}
	for _, addr := range notAddrs {
		all = append(all, some.changed(func(b *Block) { b.Root.Addr = addr }))
	}
	for _, height := range notHeights {
		all = append(all, some.changed(func(b *Block) { b.Height = height }))
	}
	for _, gen := range []uint64{7, 8, 256, wide, wide + 6, 1 << 63, math.MaxUint64} {
		all = append(all, some.changed(func(b *Block) { b.Root.Gen = gen }))
	}
	for _, gen := range gens[:len(gens)-1] {
		all = append(all, some.changed(func(b *Block) { b.Gen, b.Root.Gen = gen, gen+1 }))
		all = append(all, some.changed(func(b *Block) { b.Gen, b.Root.Gen = gen, math.MaxUint64 }))
	}
	return all
}

// P5.1: the slot.

func TestSlotOfEvenAndOdd(t *testing.T) {
	if Slot(5) != 1 || Slot(0) != 0 {
		t.Errorf("%d, %d", Slot(5), Slot(0))
	}
	for _, x := range []uint64{0, 2, 4, 254, 256, 1 << 32, 1<<63 - 2, 1 << 63, math.MaxUint64 - 3, math.MaxUint64 - 1} {
		if Slot(x) != 0 || Slot(x+1) != 1 {
			t.Errorf("of %d: %d, and then %d", x, Slot(x), Slot(x+1))
		}
	}
	for bit := 1; bit < 64; bit++ {
		if Slot(1<<bit) != 0 || Slot(1<<bit+1) != 1 || Slot(1<<bit-1) != 1 {
			t.Errorf("around 2 to %d: %d, %d, %d", bit, Slot(1<<bit-1), Slot(1<<bit), Slot(1<<bit+1))
		}
	}
}

// P5.1: an image's every byte.

// TestImageByteByByte: written out, with a check that was reckoned elsewhere, so that it hangs on no reckoning here.
func TestImageByteByByte(t *testing.T) {
	b := Block{0x0807060504030205, env.Ptr{Addr: 0x01020304, Gen: 0x0102030405060708, Sum: 0x21222324}, 32, 0x3132333435363738, 0x41424344}
	want := "TRNL" + "\x01" + "\x00" + "\x1d\x00" + "\x01\x00\x00\x00" + "\x05\x02\x03\x04\x05\x06\x07\x08" + "\xed\xf8\xcb\x32" +
		"\x04\x03\x02\x01" + "\x08\x07\x06\x05\x04\x03\x02\x01" + "\x24\x23\x22\x21" +
		"\x20" + "\x38\x37\x36\x35\x34\x33\x32\x31" + "\x44\x43\x42\x41" + strings.Repeat("\x00", 75)
	if image := images(t, b, 128); image != want {
		t.Errorf("%q, not %q", image, want)
	}
	opens(t, want, b)
}

func TestImageOfEachPart(t *testing.T) {
	for _, b := range each() {
		if image := images(t, b, 128); image != rawOf(b).image(128) {
			t.Errorf("%v.Image(128) = %q", b, image)
		}
	}
}

func TestImageOfEachSize(t *testing.T) {
	all := each()
	for size := 128; size <= 1024; size++ {
		b := all[size%len(all)]
		if image := images(t, b, size); image != rawOf(b).image(size) {
			t.Errorf("%v.Image(%d) = %q", b, size, image)
		}
	}
}

// P5.1: each error, and the order.

func TestImageRefusesSizes(t *testing.T) {
	for _, size := range notSizes {
		refusesImage(t, sum.Make(), some, size, api.ErrArg)
	}
	for size := -1100; size <= 2200; size++ {
		if size < 128 || size > 1024 {
			refusesImage(t, sum.Make(), some, size, api.ErrArg)
		}
	}
}

func TestImageRefusesWhatIsNoSuperblock(t *testing.T) {
	for _, b := range notBlocks() {
		for _, size := range sizes {
			refusesImage(t, sum.Make(), b, size, api.ErrArg)
		}
	}
}

func TestImageOfARootOfEachGenerationUpToItsOwn(t *testing.T) {
	for _, gen := range []uint64{1, 2, 3, 10} {
		for root := range gen + 3 {
			b := some.changed(func(b *Block) { b.Gen, b.Root.Gen = gen, root })
			if root > gen {
				refusesImage(t, sum.Make(), b, 128, api.ErrArg)
				continue
			}
			opens(t, images(t, b, 128), b)
		}
	}
}

func TestImageOfEachHeight(t *testing.T) {
	for height := -300; height <= 600; height++ {
		b := some.changed(func(b *Block) { b.Height = height })
		if height < 1 || height > 32 {
			refusesImage(t, sum.Make(), b, 128, api.ErrArg)
			continue
		}
		opens(t, images(t, b, 128), b)
	}
}

func TestImagesErrorsInOrder(t *testing.T) {
	for _, b := range append(notBlocks(), some) {
		for _, size := range append([]int{128, 1024}, notSizes...) {
			refusesImage(t, nil, b, size, api.ErrNil)
			if b != some || size != 128 && size != 1024 {
				refusesImage(t, sum.Make(), b, size, api.ErrArg)
			}
		}
	}
}

// P5.2: what layer 4 doesn't open.

func TestOpenAnswersLayerFoursErrors(t *testing.T) {
	c := sum.Make()
	image := rawOf(some).image(128)
	for n := range 128 {
		refusesOpen(t, c, image[:n], api.ErrForm)
	}
	refusesOpen(t, c, image+strings.Repeat("\x00", 1024-127), api.ErrForm)
	refusesOpen(t, c, strings.Repeat("\x00", 128), api.ErrForm)
	refusesOpen(t, c, strings.Repeat("x", 1024), api.ErrForm)
	for _, n := range []int{1, 64, 1024 - 128} {
		refusesOpen(t, c, image+strings.Repeat("\x00", n), api.ErrSum)
	}
	for _, size := range sizes {
		r := rawOf(some)
		check := crc32.Checksum([]byte(r.with(size, 0)), castagnoli)
		refusesOpen(t, c, r.with(size, 0), api.ErrSum)
		for bit := range 32 {
			refusesOpen(t, c, r.with(size, check^1<<bit), api.ErrSum)
		}
	}
}

// TestOpenOfOneByteAnotherOne: whatever it is, layer 4's error of it is the answer.
func TestOpenOfOneByteAnotherOne(t *testing.T) {
	c := sum.Make()
	for _, size := range []int{128, 1024} {
		image := rawOf(some).image(size)
		for at := range image {
			for _, by := range []byte{1, 0x80, 0xff} {
				other := flipped(image, at, by)
				_, _, e := env.Open(c, other)
				refusesOpen(t, c, other, e)
			}
		}
	}
}

// TestOpenTellsASumAheadOfAForm: what layer 4 doesn't open isn't looked at, be it a superblock's or not.
func TestOpenTellsASumAheadOfAForm(t *testing.T) {
	r := rawOf(some)
	for _, x := range []raw{{5, 0, 6, r.payload}, {1, 1, 6, r.payload}, {1, 0, 6, ""}, {1, 0, 6, r.payload + "z"}} {
		refusesOpen(t, sum.Make(), x.with(128, 0), api.ErrSum)
		refusesOpen(t, sum.Make(), x.image(128), api.ErrForm)
	}
}

func TestOpenOfANilTable(t *testing.T) {
	r := rawOf(some)
	for _, s := range []string{r.image(128), r.with(128, 0), r.image(128)[:127], "", strings.Repeat("x", 2000), raw{5, 0, 6, ""}.image(192)} {
		refusesOpen(t, nil, s, api.ErrNil)
	}
}

// P5.2: what isn't a superblock's image, with the right check.

func refusesForm(t *testing.T, r raw) {
	t.Helper()
	for _, size := range []int{128, 192, 1024} {
		image := r.image(size)
		if _, payload, e := env.Open(sum.Make(), image); payload != r.payload || e != api.OK {
			t.Fatalf("%q is no block's at all: %v", image, e)
		}
		refusesOpen(t, sum.Make(), image, api.ErrForm)
	}
}

func TestOpenOfOtherKinds(t *testing.T) {
	for _, kind := range []env.Kind{env.Table, env.Log, env.Leaf, env.Node} {
		for _, b := range each() {
			r := rawOf(b)
			r.kind = byte(kind)
			refusesForm(t, r)
		}
	}
}

func TestOpenOfOtherSlots(t *testing.T) {
	for _, b := range each() {
		for _, addr := range []uint32{0, 1, 2, 3, 4, 255, 256, 257, 1 << 16, 1<<31 - 2, 1<<31 - 1} {
			r := rawOf(b)
			if r.addr == addr {
				continue
			}
			r.addr = addr
			refusesForm(t, r)
		}
	}
}

func TestOpenOfTheGenerationNought(t *testing.T) {
	for _, addr := range []uint32{0, 1} {
		refusesForm(t, raw{1, addr, 0, rawOf(some).payload})
		refusesForm(t, raw{1, addr, 0, payloadOf(17, 0, 1, 3, 258, 9)})
	}
}

func TestOpenOfRootsOfLaterGenerations(t *testing.T) {
	for _, gen := range gens[:len(gens)-1] {
		for _, root := range []uint64{gen + 1, gen + (math.MaxUint64-gen)/2 + 1, math.MaxUint64} {
			refusesForm(t, raw{1, uint32(gen & 1), gen, payloadOf(17, root, 1, 3, 258, 9)})
		}
	}
}

func TestOpenOfRootsAddresses(t *testing.T) {
	for _, addr := range []uint32{1 << 31, 1<<31 + 17, math.MaxUint32 - 1, math.MaxUint32} {
		refusesForm(t, raw{1, 0, 6, payloadOf(addr, 5, 1, 3, 258, 9)})
	}
}

func TestOpenOfEachHeight(t *testing.T) {
	for height := range 256 {
		r := raw{1, 0, 6, payloadOf(17, 5, 0xabcdef, byte(height), 258, 9)}
		if height < 1 || height > 32 {
			refusesForm(t, r)
			continue
		}
		opens(t, r.image(128), some.changed(func(b *Block) { b.Height = height }))
	}
}

func TestOpenOfPayloadsTooShort(t *testing.T) {
	for _, b := range each() {
		payload := rawOf(b).payload
		if len(payload) != 29 {
			t.Fatalf("%d bytes", len(payload))
		}
		for n := range payload {
			refusesForm(t, raw{1, uint32(b.Gen & 1), b.Gen, payload[:n]})
		}
	}
}

func TestOpenOfPayloadsTooLong(t *testing.T) {
	payload := rawOf(some).payload
	for n := 1; n <= 104-29; n++ {
		for _, more := range []string{"\x00", "z"} {
			refusesForm(t, raw{1, 0, 6, payload + strings.Repeat(more, n)})
		}
	}
	refusesOpen(t, sum.Make(), raw{1, 0, 6, payload + strings.Repeat("z", 1000-29)}.image(1024), api.ErrForm)
}

// P5.2: what is one.

func TestOpenOfEachPart(t *testing.T) {
	for _, b := range each() {
		opens(t, rawOf(b).image(128), b)
	}
}

func TestOpenOfEachSize(t *testing.T) {
	all := each()
	for size := 128; size <= 1024; size++ {
		b := all[size%len(all)]
		opens(t, rawOf(b).image(size), b)
	}
}

// P5.2: the newest.

func TestNewestOfNone(t *testing.T) {
	for _, c := range []*sum.Table{nil, sum.Make()} {
		noneIsNewest(t, c)
		noneIsNewest(t, c, []string{}...)
		noneIsNewest(t, c, "")
		noneIsNewest(t, c, "", "z", strings.Repeat("\x00", 128))
	}
	noneIsNewest(t, nil, rawOf(some).image(128), rawOf(some).image(192))
}

// wrongs: images that aren't opened, though each says that it is of a late generation.
func wrongs() []string {
	late := some.changed(func(b *Block) { b.Gen = 1 << 40 })
	r := rawOf(late)
	return []string{
		"", "z", r.image(128)[:127], r.with(128, 0), flipped(r.image(128), 0, 1), flipped(r.image(128), 60, 1),
		raw{2, 0, late.Gen, r.payload}.image(128), raw{1, 1, late.Gen, r.payload}.image(128), raw{1, 0, late.Gen + 1, r.payload}.image(128),
		raw{1, 0, late.Gen, ""}.image(128), raw{1, 0, late.Gen, r.payload + "z"}.image(128), raw{1, 0, late.Gen, payloadOf(0, late.Gen+1, 0, 1, 0, 0)}.image(128),
		raw{1, 0, 0, r.payload}.image(128), raw{1, 0, late.Gen, payloadOf(0, 0, 0, 0, 0, 0)}.image(128),
	}
}

func TestNewestOfSomeThatAreNotOpened(t *testing.T) {
	noneIsNewest(t, sum.Make(), wrongs()...)
	image := rawOf(some).image(128)
	for k := range len(wrongs()) + 1 {
		newest(t, some, slices.Insert(wrongs(), k, image)...)
		newest(t, some, slices.Insert(append(wrongs(), image), k, rawOf(some.changed(func(b *Block) { b.Gen = 5 })).image(128))...)
	}
}

// TestNewestInAnyOrder: of some generations, in each order, of unlike sizes.
func TestNewestInAnyOrder(t *testing.T) {
	for _, of := range [][]uint64{{5}, {5, 6}, {1, 2, 3, 4}, {1, 256, 255, 1 << 32}, {1 << 63, 1<<63 - 1, 3, 2}, {math.MaxUint64, math.MaxUint64 - 1, 1, 1 << 63}} {
		late := slices.Max(of)
		permute(of, func(order []uint64) {
			var all []string
			var want Block
			for k, gen := range order {
				b := Block{gen, env.Ptr{Addr: k, Gen: gen}, 1 + k, 1000 - gen, uint32(k)}
				all = append(all, rawOf(b).image(sizes[k]))
				if gen == late {
					want = b
				}
			}
			newest(t, want, all...)
		})
	}
}

// permute calls a function of each order of some numbers.
func permute(of []uint64, f func([]uint64)) {
	var put func(begun, left []uint64)
	put = func(begun, left []uint64) {
		if len(left) == 0 {
			f(begun)
		}
		for k, x := range left {
			put(append(slices.Clone(begun), x), slices.Delete(slices.Clone(left), k, k+1))
		}
	}
	put(nil, of)
}

// TestNewestIsOfTheGenerationAlone: not of the root's, of the records' number, of the height or of the check.
func TestNewestIsOfTheGenerationAlone(t *testing.T) {
	late := Block{8, env.Ptr{}, 1, 0, 0}
	early := Block{7, env.Ptr{Addr: 1<<31 - 1, Gen: 7, Sum: math.MaxUint32}, 32, math.MaxUint64, math.MaxUint32}
	newest(t, late, rawOf(late).image(128), rawOf(early).image(1024))
	newest(t, late, rawOf(early).image(1024), rawOf(late).image(128))
}

func TestNewestOfTwoOfTheSameGeneration(t *testing.T) {
	one := Block{8, env.Ptr{Addr: 5, Gen: 3, Sum: 4}, 2, 10, 20}
	for _, other := range []Block{
		{8, env.Ptr{Addr: 6, Gen: 3, Sum: 4}, 2, 10, 20}, {8, env.Ptr{Addr: 5, Gen: 8, Sum: 4}, 2, 10, 20}, {8, env.Ptr{Addr: 5, Gen: 3, Sum: 9}, 2, 10, 20},
		{8, env.Ptr{Addr: 5, Gen: 3, Sum: 4}, 3, 10, 20}, {8, env.Ptr{Addr: 5, Gen: 3, Sum: 4}, 2, 11, 20}, {8, env.Ptr{Addr: 5, Gen: 3, Sum: 4}, 2, 10, 21},
	} {
		a, b := rawOf(one).image(192), rawOf(other).image(128)
		early := rawOf(some).image(128)
		newest(t, one, a, b)
		newest(t, other, b, a)
		newest(t, one, early, a, b, early, b, a)
		newest(t, other, early, b, a, a, early)
		newest(t, one, flipped(b, 70, 1), a, b)
		newest(t, one, a, a)
	}
}

// P5.3

func TestOpenOfImage(t *testing.T) {
	c := sum.Make()
	for k, b := range each() {
		for _, size := range sizes {
			image, e := b.Image(c, size)
			if e != api.OK {
				t.Fatalf("%v.Image(%d): %v", b, size, e)
			}
			opens(t, image, b)
			if k%7 == 0 {
				newest(t, b, image)
			}
		}
	}
}

// The rules that hold everywhere.

func TestNewestLeavesTheListAsItIs(t *testing.T) {
	late := some.changed(func(b *Block) { b.Gen = 9 })
	list := []string{rawOf(some).image(128), "z", rawOf(some).image(192), rawOf(late).image(128)}
	before := slices.Clone(list)
	newest(t, some, list[:3]...)
	if !slices.Equal(list, before) {
		t.Error("the list is changed")
	}
	noneIsNewest(t, sum.Make(), list[1:2]...)
	noneIsNewest(t, sum.Make(), list[:0]...)
}

func TestAnswersHangOnArgumentsAlone(t *testing.T) {
	one, other := sum.Make(), sum.Make()
	first, _ := some.Image(one, 192)
	Open(one, flipped(first, 3, 1))
	Newest(one, rawOf(some.changed(func(b *Block) { b.Gen = 100 })).image(128))
	second, _ := some.Image(other, 192)
	if first != second {
		t.Errorf("%q, and then %q", first, second)
	}
	newest(t, some, second)
	if *one != *sum.Make() {
		t.Error("the table is changed")
	}
}
