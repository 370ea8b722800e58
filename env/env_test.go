package env

import (
	"encoding/binary"
	"hash/crc32"
	"math"
	"slices"
	"strings"
	"testing"

	"treenail/api"
	"treenail/sum"
)

// wide: a bit that four bytes have no place for, so that an Addr with it looks there like one without it.
const wide = 1 << 32

var (
	kinds      = []Kind{Super, Table, Log, Leaf, Node}
	sizes      = []int{128, 129, 191, 192, 255, 256, 1000, 1023, 1024}
	notSizes   = []int{127, 1025, 0, -1, -128, 64, 2048, 65536, wide + 128, math.MinInt, math.MaxInt}
	addrs      = []int{0, 1, 127, 128, 255, 256, 65535, 65536, 1<<24 - 1, 1 << 24, 1<<31 - 2, 1<<31 - 1}
	notAddrs   = []int{-1, 1 << 31, 1<<31 + 1, 1<<32 - 1, wide, wide + 7, -wide, math.MinInt, math.MaxInt}
	gens       = []uint64{0, 1, 255, 256, 1<<32 - 1, 1 << 32, 1<<63 - 1, 1 << 63, math.MaxUint64}
	castagnoli = crc32.MakeTable(crc32.Castagnoli)
	someHead   = Head{Leaf, 258, 0x0807060504030201}
	somePay    = "payload"
	someSums   = []uint32{0, 1, 255, 1 << 31, math.MaxUint32}
)

// raw is an image as the chapter writes it down, of parts that needn't be right; a second maker, which shares nothing with the program.
type raw struct {
	mark         string
	kind, nought byte
	length       uint16
	addr         uint32
	gen          uint64
	body         string // the payload, and what stands behind it
}

func rawOf(size int, h Head, payload string) raw {
	body := payload + strings.Repeat("\x00", size-24-len(payload))
	return raw{"TRNL", byte(h.Kind), 0, uint16(len(payload)), uint32(h.Addr), h.Gen, body}
}

func (r raw) with(check uint32) string {
	b := append([]byte(r.mark), r.kind, r.nought)
	b = binary.LittleEndian.AppendUint16(b, r.length)
	b = binary.LittleEndian.AppendUint32(b, r.addr)
	b = binary.LittleEndian.AppendUint64(b, r.gen)
	b = binary.LittleEndian.AppendUint32(b, check)
	return string(append(b, r.body...))
}

func (r raw) check() uint32 { return crc32.Checksum([]byte(r.with(0)), castagnoli) }

// image: with the right check, so that no other part is told by it.
func (r raw) image() string { return r.with(r.check()) }

// spread: a text of some bytes that differ.
func spread(length, seed int) string {
	bytes := make([]byte, length)
	n := uint32(seed)*2654435761 + 1
	for i := range bytes {
		n = n*1664525 + 1013904223
		bytes[i] = byte(n >> 24)
	}
	return string(bytes)
}

func flipped(s string, at int, by byte) string {
	return s[:at] + string([]byte{s[at] ^ by}) + s[at+1:]
}

func seals(t *testing.T, size int, h Head, payload string) (string, Ptr) {
	t.Helper()
	image, p, e := Seal(sum.Make(), size, h, payload)
	if len(image) != size || e != api.OK {
		t.Fatalf("Seal(%d, %v, %q) = %q, %v", size, h, payload, image, e)
	}
	return image, p
}

func refusesSeal(t *testing.T, c *sum.Table, size int, h Head, payload string, want api.Errno) {
	t.Helper()
	if image, p, e := Seal(c, size, h, payload); image != "" || p != (Ptr{}) || e != want {
		t.Errorf("Seal(%d, %v, of %d bytes) = %q, %v, %v, not %v", size, h, len(payload), image, p, e, want)
	}
}

func opens(t *testing.T, image string, head Head, payload string) {
	t.Helper()
	if h, x, e := Open(sum.Make(), image); h != head || x != payload || e != api.OK {
		t.Errorf("Open(%q) = %v, %q, %v, not %v, %q", image, h, x, e, head, payload)
	}
}

// refusesOpen: and no Ptr is met, be it the zero one or what the bytes would be known by.
func refusesOpen(t *testing.T, c *sum.Table, image string, want api.Errno) {
	t.Helper()
	if h, x, e := Open(c, image); h != (Head{}) || x != "" || e != want {
		t.Errorf("Open(%q) = %v, %q, %v, not %v", image, h, x, e, want)
	}
	if (Ptr{}).Meets(c, image) || told(image).Meets(c, image) {
		t.Errorf("%q, which isn't an image, meets something", image)
	}
}

// told: the Ptr that stands in some bytes, whatever else they are.
func told(image string) Ptr {
	if len(image) < 24 {
		return Ptr{}
	}
	b := []byte(image)
	return Ptr{int(binary.LittleEndian.Uint32(b[8:])), binary.LittleEndian.Uint64(b[12:]), binary.LittleEndian.Uint32(b[20:])}
}

func meets(t *testing.T, p Ptr, image string, want bool) {
	t.Helper()
	if p.Meets(sum.Make(), image) != want {
		t.Errorf("%v.Meets(%q) = %v", p, image, !want)
	}
}

// P4.1: the room.

func TestRoomOfEachSize(t *testing.T) {
	if Room(128) != 104 || Room(1024) != 1000 {
		t.Errorf("%d, %d", Room(128), Room(1024))
	}
	for size := -1100; size <= 2200; size++ {
		want := 0
		if size >= 128 && size <= 1024 {
			want = size - 24
		}
		if n := Room(size); n != want {
			t.Errorf("Room(%d) = %d, not %d", size, n, want)
		}
	}
	for _, size := range notSizes {
		if n := Room(size); n != 0 {
			t.Errorf("Room(%d) = %d", size, n)
		}
	}
}

// P4.1: an image's every byte.

// TestImageByteByByte: written out, with a check that was reckoned elsewhere, so that it hangs on no reckoning here.
func TestImageByteByByte(t *testing.T) {
	want := "TRNL" + "\x04" + "\x00" + "\x07\x00" + "\x02\x01\x00\x00" + "\x01\x02\x03\x04\x05\x06\x07\x08" +
		"\xe7\xdb\x6a\x3d" + "payload" + strings.Repeat("\x00", 97)
	image, p := seals(t, 128, someHead, somePay)
	if image != want {
		t.Errorf("%q, not %q", image, want)
	}
	if p != (Ptr{258, 0x0807060504030201, 0x3d6adbe7}) {
		t.Errorf("%v is known", p)
	}
}

func TestKindsAsBytes(t *testing.T) {
	if !slices.Equal(kinds, []Kind{1, 2, 3, 4, 5}) {
		t.Errorf("%v", kinds)
	}
	for _, k := range kinds {
		if image, _ := seals(t, 128, Head{k, 0, 0}, ""); image[4] != byte(k) {
			t.Errorf("the kind %d: %q", k, image[:8])
		}
	}
}

func sealsAs(t *testing.T, size int, h Head, payload string) {
	t.Helper()
	r := rawOf(size, h, payload)
	image, p := seals(t, size, h, payload)
	if image != r.image() || p != (Ptr{h.Addr, h.Gen, r.check()}) {
		t.Errorf("Seal(%d, %v, %q) = %q, %v, not %q", size, h, payload, image, p, r.image())
	}
}

func TestSealOfEachHead(t *testing.T) {
	for _, k := range kinds {
		for _, addr := range addrs {
			for _, gen := range gens {
				sealsAs(t, 128, Head{k, addr, gen}, somePay)
			}
		}
	}
}

func TestSealOfEachSize(t *testing.T) {
	for size := 128; size <= 1024; size++ {
		for _, n := range []int{0, 1, size/2 - 24, size - 25, size - 24} {
			sealsAs(t, size, someHead, spread(n, size))
		}
	}
}

func TestSealOfPayloadsOfNoughts(t *testing.T) {
	for _, payload := range []string{"", "\x00", "\x00\x00", "a\x00", "\x00a", strings.Repeat("\x00", 104)} {
		sealsAs(t, 128, someHead, payload)
		opens(t, rawOf(128, someHead, payload).image(), someHead, payload)
	}
}

// P4.1: each error, and the order.

func TestSealRefusesSizes(t *testing.T) {
	for _, size := range notSizes {
		refusesSeal(t, sum.Make(), size, someHead, "", api.ErrArg)
		refusesSeal(t, sum.Make(), size, someHead, somePay, api.ErrArg)
	}
}

func TestSealRefusesKinds(t *testing.T) {
	for k := range 256 {
		if k < 1 || k > 5 {
			refusesSeal(t, sum.Make(), 128, Head{Kind(k), 1, 1}, "", api.ErrArg)
		}
	}
}

func TestSealRefusesAddrs(t *testing.T) {
	for _, addr := range notAddrs {
		for _, k := range kinds {
			refusesSeal(t, sum.Make(), 128, Head{k, addr, 1}, "", api.ErrArg)
		}
	}
}

func TestSealRefusesLongPayloads(t *testing.T) {
	for _, size := range sizes {
		for _, more := range []int{1, 2, 23, 24, 25, 1000, 65536 - (size - 24), 65536, 65536 + 104, 1 << 20} {
			refusesSeal(t, sum.Make(), size, someHead, strings.Repeat("p", size-24+more), api.ErrLong)
		}
		seals(t, size, someHead, strings.Repeat("p", size-24))
	}
	refusesSeal(t, sum.Make(), 1024, someHead, strings.Repeat("\x00", 1001), api.ErrLong)
}

func TestSealsErrorsInOrder(t *testing.T) {
	long := strings.Repeat("p", 1001)
	for _, size := range append([]int{128}, notSizes...) {
		for _, h := range []Head{someHead, {0, 1, 1}, {6, 1, 1}, {Leaf, -1, 1}, {}} {
			refusesSeal(t, nil, size, h, "", api.ErrNil)
			refusesSeal(t, nil, size, h, long, api.ErrNil)
			if size != 128 || h != someHead {
				refusesSeal(t, sum.Make(), size, h, "", api.ErrArg)
				refusesSeal(t, sum.Make(), size, h, long, api.ErrArg)
			}
		}
	}
}

// P4.2: what is an image.

func TestOpenOfEachHead(t *testing.T) {
	for _, k := range kinds {
		for _, addr := range addrs {
			for _, gen := range gens {
				h := Head{k, addr, gen}
				opens(t, rawOf(192, h, somePay).image(), h, somePay)
			}
		}
	}
}

func TestOpenOfEachSize(t *testing.T) {
	for size := 128; size <= 1024; size++ {
		for _, n := range []int{0, 1, size - 25, size - 24} {
			payload := spread(n, size)
			opens(t, rawOf(size, someHead, payload).image(), someHead, payload)
		}
	}
}

func TestOpenRefusesLengths(t *testing.T) {
	c := sum.Make()
	for n := range 128 {
		r := rawOf(128, someHead, "")
		refusesOpen(t, c, r.image()[:n], api.ErrForm)
		if n >= 24 {
			r.body = r.body[:n-24]
			refusesOpen(t, c, r.image(), api.ErrForm)
		}
	}
	for _, n := range []int{1025, 1026, 1088, 2048, 4096, 65536 + 128} {
		refusesOpen(t, c, rawOf(n, someHead, somePay).image(), api.ErrForm)
	}
}

// TestOpenOfAnotherLength: one that may be, but isn't the one that was sealed: the check is another one.
func TestOpenOfAnotherLength(t *testing.T) {
	image := rawOf(192, someHead, somePay).image()
	for n := 128; n < 192; n++ {
		refusesOpen(t, sum.Make(), image[:n], api.ErrSum)
	}
	for n := 1; n <= 1024-192; n++ {
		refusesOpen(t, sum.Make(), image+strings.Repeat("\x00", n), api.ErrSum)
	}
	refusesOpen(t, sum.Make(), image+strings.Repeat("\x00", 1024-191), api.ErrForm)
}

// P4.2: each part of the envelope another one.

// isNone: is it ErrForm, with the right check (for what it is) and without one?
func isNone(t *testing.T, r raw) {
	t.Helper()
	refusesOpen(t, sum.Make(), r.image(), api.ErrForm)
	refusesOpen(t, sum.Make(), r.with(r.check()^1), api.ErrForm)
}

func TestOpenOfOtherMarks(t *testing.T) {
	for _, mark := range []string{"XRNL", "TXNL", "TRXL", "TRNX", "trnl", "LNRT", "\x00\x00\x00\x00", "\xd4RNL", "TRNM"} {
		r := rawOf(128, someHead, somePay)
		r.mark = mark
		isNone(t, r)
	}
}

func TestOpenOfOtherKinds(t *testing.T) {
	for k := range 256 {
		r := rawOf(128, someHead, somePay)
		r.kind = byte(k)
		if k < 1 || k > 5 {
			isNone(t, r)
			continue
		}
		opens(t, r.image(), Head{Kind(k), someHead.Addr, someHead.Gen}, somePay)
	}
}

func TestOpenOfOtherNoughts(t *testing.T) {
	for nought := 1; nought < 256; nought++ {
		r := rawOf(128, someHead, somePay)
		r.nought = byte(nought)
		isNone(t, r)
	}
}

func TestOpenOfOtherPayloadsLengths(t *testing.T) {
	for _, size := range sizes {
		for _, length := range []int{size - 23, size - 22, size, 1001, 1024, 32768, 65535 - 24, 65535} {
			r := rawOf(size, someHead, somePay)
			r.length = uint16(length)
			isNone(t, r)
		}
	}
	for length := range 7 {
		r := rawOf(128, someHead, somePay)
		r.length = uint16(length)
		isNone(t, r)
	}
	for length := 8; length <= 104; length++ {
		r := rawOf(128, someHead, somePay)
		r.length = uint16(length)
		opens(t, r.image(), someHead, r.body[:length])
		refusesOpen(t, sum.Make(), r.with(rawOf(128, someHead, somePay).check()), api.ErrSum)
	}
}

func TestOpenOfOtherAddrs(t *testing.T) {
	for _, addr := range []uint32{1 << 31, 1<<31 + 1, 1<<31 + 258, math.MaxUint32 - 1, math.MaxUint32} {
		r := rawOf(128, someHead, somePay)
		r.addr = addr
		isNone(t, r)
	}
}

func TestOpenOfNoughtsThatAreNone(t *testing.T) {
	for _, size := range []int{128, 129, 1024} {
		for at := len(somePay); at < size-24; at++ {
			r := rawOf(size, someHead, somePay)
			for _, by := range []byte{1, 0x20, 0x80, 0xff} {
				isNone(t, raw{r.mark, r.kind, r.nought, r.length, r.addr, r.gen, flipped(r.body, at, by)})
			}
		}
	}
	r := rawOf(128, someHead, "")
	r.body = flipped(r.body, 0, '\t')
	isNone(t, r)
}

// P4.2: the check.

func TestOpenOfTheCheckAloneAnotherOne(t *testing.T) {
	for _, size := range sizes {
		r := rawOf(size, someHead, somePay)
		for bit := range 32 {
			refusesOpen(t, sum.Make(), r.with(r.check()^1<<bit), api.ErrSum)
		}
		for _, check := range someSums {
			refusesOpen(t, sum.Make(), r.with(check), api.ErrSum)
		}
	}
}

// TestOpenOfAnotherPart: each part may be, but isn't the one of the check.
func TestOpenOfAnotherPart(t *testing.T) {
	r := rawOf(128, someHead, somePay)
	for _, x := range []raw{
		rawOf(128, Head{Node, someHead.Addr, someHead.Gen}, somePay),
		rawOf(128, Head{Leaf, someHead.Addr + 1, someHead.Gen}, somePay),
		rawOf(128, Head{Leaf, someHead.Addr, someHead.Gen + 1}, somePay),
		rawOf(128, Head{Leaf, someHead.Addr, someHead.Gen ^ 1<<63}, somePay),
		rawOf(128, someHead, "Payload"),
		rawOf(128, someHead, "payloae"),
		rawOf(128, someHead, ""),
	} {
		refusesOpen(t, sum.Make(), x.with(r.check()), api.ErrSum)
	}
}

// TestOpenOfChecksOfLess: of the image without the check's place, of the payload alone, of the envelope alone, with all its bits turned, or of the place as it is.
func TestOpenOfChecksOfLess(t *testing.T) {
	r := rawOf(128, someHead, somePay)
	bare := r.with(0)
	for _, s := range []string{bare[:20] + bare[24:], somePay, bare[24:], bare[:24], bare[:20], bare[:31], r.with(r.check())} {
		check := crc32.Checksum([]byte(s), castagnoli)
		refusesOpen(t, sum.Make(), r.with(check), api.ErrSum)
		refusesOpen(t, sum.Make(), r.with(^check), api.ErrSum)
	}
	refusesOpen(t, sum.Make(), r.with(crc32.ChecksumIEEE([]byte(bare))), api.ErrSum)
}

func TestOpenOfANilTable(t *testing.T) {
	image := rawOf(128, someHead, somePay).image()
	for _, s := range []string{image, flipped(image, 0, 1), flipped(image, 20, 1), image[:127], "", strings.Repeat("x", 2000)} {
		refusesOpen(t, nil, s, api.ErrNil)
	}
	unsummed := rawOf(128, someHead, somePay).with(0) // a nil table's check is 0
	refusesOpen(t, nil, unsummed, api.ErrNil)
}

func TestOpenOfWhatIsNoImageAtAll(t *testing.T) {
	refusesOpen(t, sum.Make(), "", api.ErrForm)
	refusesOpen(t, sum.Make(), strings.Repeat("\x00", 128), api.ErrForm)
	refusesOpen(t, sum.Make(), strings.Repeat("\xff", 1024), api.ErrForm)
	refusesOpen(t, sum.Make(), "TRNL", api.ErrForm)
	for seed := range 2000 {
		s := spread(seed%1100, seed)
		refusesOpen(t, sum.Make(), s, api.ErrForm)
		if len(s) > 4 {
			refusesOpen(t, sum.Make(), "TRNL"+s[4:], api.ErrForm)
		}
	}
}

// P4.2: which images a Ptr meets.

func TestMeetsItsOwn(t *testing.T) {
	for _, size := range sizes {
		for _, addr := range addrs {
			for k, gen := range gens {
				image, p := seals(t, size, Head{kinds[k%5], addr, gen}, spread(k*13, k))
				meets(t, p, image, true)
				meets(t, told(image), image, true)
			}
		}
	}
}

func TestMeetsNoOther(t *testing.T) {
	image, p := seals(t, 128, someHead, somePay)
	for bit := range 64 {
		meets(t, Ptr{p.Addr ^ 1<<bit, p.Gen, p.Sum}, image, false)
		meets(t, Ptr{p.Addr, p.Gen ^ 1<<bit, p.Sum}, image, false)
		if bit < 32 {
			meets(t, Ptr{p.Addr, p.Gen, p.Sum ^ 1<<bit}, image, false)
		}
	}
	for _, other := range []Ptr{{}, {Addr: p.Addr}, {Gen: p.Gen}, {Sum: p.Sum}, {-p.Addr, p.Gen, p.Sum}, {p.Addr - wide, p.Gen, p.Sum}} {
		meets(t, other, image, false)
	}
	for _, addr := range notAddrs {
		meets(t, Ptr{addr, p.Gen, p.Sum}, image, false)
	}
}

// TestMeetsNoOtherImage: another address, generation, kind, payload or size, of which all is right.
func TestMeetsNoOtherImage(t *testing.T) {
	_, p := seals(t, 128, someHead, somePay)
	for _, x := range []raw{
		rawOf(128, Head{Leaf, 259, someHead.Gen}, somePay),
		rawOf(128, Head{Leaf, 258, someHead.Gen - 1}, somePay),
		rawOf(128, Head{Node, 258, someHead.Gen}, somePay),
		rawOf(128, someHead, "payloaD"),
		rawOf(128, someHead, "payload\x00"),
		rawOf(192, someHead, somePay),
	} {
		meets(t, p, x.image(), false)
		opens(t, x.image(), Head{Kind(x.kind), int(x.addr), x.gen}, x.body[:x.length])
	}
}

// TestMeetsNoneOfAWrongCheck: neither by the check that stands in it, nor by the one that it should have.
func TestMeetsNoneOfAWrongCheck(t *testing.T) {
	r := rawOf(128, someHead, somePay)
	for _, check := range append([]uint32{r.check() ^ 1, ^r.check()}, someSums...) {
		meets(t, Ptr{someHead.Addr, someHead.Gen, check}, r.with(check), false)
		meets(t, Ptr{someHead.Addr, someHead.Gen, r.check()}, r.with(check), false)
	}
}

func TestMeetsNothingByANilTable(t *testing.T) {
	image, p := seals(t, 128, someHead, somePay)
	unsummed := rawOf(128, Head{Leaf, 0, 0}, "").with(0)
	if p.Meets(nil, image) || (Ptr{}).Meets(nil, "") || (Ptr{}).Meets(nil, unsummed) {
		t.Error("an image is met without a table")
	}
}

// P4.3

func TestTextOfEachPart(t *testing.T) {
	for _, x := range []struct {
		p Ptr
		s string
	}{
		{Ptr{}, strings.Repeat("\x00", 16)},
		{Ptr{1, 2, 3}, "\x01\x00\x00\x00\x02\x00\x00\x00\x00\x00\x00\x00\x03\x00\x00\x00"},
		{Ptr{0x04030201, 0x0c0b0a0908070605, 0x100f0e0d}, "\x01\x02\x03\x04\x05\x06\x07\x08\x09\x0a\x0b\x0c\x0d\x0e\x0f\x10"},
		{Ptr{1<<31 - 1, 0, 0}, "\xff\xff\xff\x7f" + strings.Repeat("\x00", 12)},
		{Ptr{0, math.MaxUint64, 0}, "\x00\x00\x00\x00" + strings.Repeat("\xff", 8) + "\x00\x00\x00\x00"},
		{Ptr{0, 0, math.MaxUint32}, strings.Repeat("\x00", 12) + "\xff\xff\xff\xff"},
	} {
		if s, ok := x.p.Text(); s != x.s || !ok {
			t.Errorf("%v.Text() = %q, %v", x.p, s, ok)
		}
		if p, rest, ok := ParsePtr(x.s); p != x.p || rest != "" || !ok {
			t.Errorf("ParsePtr(%q) = %v, %q, %v", x.s, p, rest, ok)
		}
	}
}

func TestTextRefusesAddrs(t *testing.T) {
	for _, addr := range notAddrs {
		if s, ok := (Ptr{addr, 1, 2}).Text(); s != "" || ok {
			t.Errorf("the Text of the Addr %d: %q, %v", addr, s, ok)
		}
	}
}

func refusesPtr(t *testing.T, s string) {
	t.Helper()
	if p, rest, ok := ParsePtr(s); p != (Ptr{}) || rest != "" || ok {
		t.Errorf("ParsePtr(%q) = %v, %q, %v", s, p, rest, ok)
	}
}

func TestParsePtrRefusesShortTexts(t *testing.T) {
	for n := range 16 {
		refusesPtr(t, strings.Repeat("\x01", n))
		refusesPtr(t, strings.Repeat("\x00", n))
	}
}

func TestParsePtrRefusesAddrs(t *testing.T) {
	behind := strings.Repeat("\x00", 12)
	for _, addr := range []string{"\x00\x00\x00\x80", "\x01\x00\x00\x80", "\xff\xff\xff\xff", "\xfe\xff\xff\xff"} {
		refusesPtr(t, addr+behind)
		refusesPtr(t, addr+behind+"more")
		refusesPtr(t, addr+behind[1:])
	}
}

func TestParsePtrOfText(t *testing.T) {
	for _, addr := range addrs {
		for _, gen := range gens {
			for _, check := range someSums {
				p := Ptr{addr, gen, check}
				s, ok := p.Text()
				if len(s) != 16 || !ok {
					t.Fatalf("%v.Text() = %q, %v", p, s, ok)
				}
				for _, rest := range []string{"", "\x00", "z", s, strings.Repeat("\xff", 100)} {
					if back, left, ok := ParsePtr(s + rest); back != p || left != rest || !ok {
						t.Fatalf("ParsePtr(%q) = %v, %q, %v", s+rest, back, left, ok)
					}
				}
			}
		}
	}
}

// P4.4

func TestOpenOfSeal(t *testing.T) {
	c := sum.Make()
	for k := range 3000 {
		size := 128 + k*7%897
		h := Head{kinds[k%5], addrs[k%len(addrs)], gens[k%len(gens)]}
		payload := spread(k*31%(size-23), k)
		image, p, e := Seal(c, size, h, payload)
		if e != api.OK {
			t.Fatalf("Seal(%d, %v, %q): %v", size, h, payload, e)
		}
		opens(t, image, h, payload)
		meets(t, p, image, true)
	}
}

func TestOneByteAnotherOne(t *testing.T) {
	c := sum.Make()
	for k, payload := range []string{"", somePay, spread(104, 1), strings.Repeat("\x00", 50)} {
		image, p := seals(t, 128, Head{kinds[k], k, uint64(k)}, payload)
		for at := range image {
			for by := 1; by < 256; by++ {
				other := flipped(image, at, byte(by))
				if _, _, e := Open(c, other); e == api.OK || p.Meets(c, other) || told(other).Meets(c, other) {
					t.Fatalf("with %d at %d it is an image still", by, at)
				}
			}
		}
	}
	image, p := seals(t, 1024, someHead, spread(600, 2))
	for at := range image {
		other := flipped(image, at, byte(1+at%255))
		if _, _, e := Open(c, other); e == api.OK || p.Meets(c, other) {
			t.Fatalf("another byte at %d, and it is an image still", at)
		}
	}
}

func TestImagesOfUnlikeBlocksAreUnlike(t *testing.T) {
	type block struct {
		head    Head
		payload string
	}
	seen := map[string]block{}
	for _, k := range kinds {
		for _, addr := range addrs {
			for _, gen := range gens {
				for _, payload := range []string{"", "\x00", "\x00\x00", "a", "a\x00", "\x00a", "b", strings.Repeat("\x00", 104)} {
					image, _ := seals(t, 128, Head{k, addr, gen}, payload)
					if other, ok := seen[image]; ok {
						t.Fatalf("%v and %v, %q have one image", other, Head{k, addr, gen}, payload)
					}
					seen[image] = block{Head{k, addr, gen}, payload}
				}
			}
		}
	}
}

// The rules that hold everywhere.

func TestAnswersHangOnArgumentsAlone(t *testing.T) {
	one, other := sum.Make(), sum.Make()
	first, p, _ := Seal(one, 192, someHead, somePay)
	Open(one, flipped(first, 3, 1))
	Seal(one, 192, Head{}, somePay)
	second, q, _ := Seal(other, 192, someHead, somePay)
	if first != second || p != q || !p.Meets(other, first) || !q.Meets(one, second) {
		t.Errorf("%q, %v, and then %q, %v", first, p, second, q)
	}
	if *one != *sum.Make() {
		t.Error("the table is changed")
	}
}
