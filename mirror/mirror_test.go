package mirror

import (
	"encoding/binary"
	"hash/crc32"
	"math"
	"slices"
	"strings"
	"testing"

	"treenail/api"
	"treenail/dev"
	"treenail/env"
	"treenail/remap"
)

// The shape of most tests' devices.
var shape = dev.Shape{Sectors: 16, Size: 128}

const (
	spares = 3
	blocks = 9
	slots  = 4
)

// Numbers that are no block's; the ones behind the last one have a sector, but are none.
var notBlocks = []int{-1, -2, -4, -5, blocks, blocks + 1, blocks + spares - 1, blocks + spares, 16, 4096, 1 << 16, 1<<16 + 4, 1 << 32, 1<<32 + 4, math.MinInt, math.MinInt + 4, math.MaxInt - 1, math.MaxInt}

// notImages: texts that haven't a sector's bytes.
func notImages() []string {
	image := page("z")
	return []string{"", "z", image[1:], image + "z", image[:64], image + image, strings.Repeat("z", 1024)}
}

func page(c string) string { return strings.Repeat(c, shape.Size) }

// world is a mirror of a new pair of new devices.
type world struct {
	m *Mirror
	p *remap.Pair
	d [remap.Sides]*dev.Device
}

func made(t *testing.T, spares int) *world {
	t.Helper()
	w := &world{}
	for side := range remap.Sides {
		w.d[side] = device(t, shape)
	}
	p, e := remap.Format(w.d[0], w.d[1], spares)
	if e != api.OK {
		t.Fatal(e)
	}
	w.p = p
	w.m = over(t, p)
	return w
}

func over(t *testing.T, p *remap.Pair) *Mirror {
	t.Helper()
	m, e := New(p)
	if e != api.OK || m == nil {
		t.Fatalf("New: %v, %v", m, e)
	}
	return m
}

func device(t *testing.T, s dev.Shape) *dev.Device {
	t.Helper()
	d, e := dev.New(s)
	if e != api.OK {
		t.Fatal(e)
	}
	return d
}

func told(t *testing.T, what string, e, want api.Errno) {
	t.Helper()
	if e != want {
		t.Errorf("%s: %v, not %v", what, e, want)
	}
}

func writes(t *testing.T, m *Mirror, block int, image string) {
	t.Helper()
	if e := m.Write(block, image); e != api.OK {
		t.Fatalf("Write(%d): %v", block, e)
	}
}

// sector: where a side's block is.
func (w *world) sector(side, block int) int {
	place, _ := w.p.Table(side).At(block)
	return slots + place
}

// copy: what a side has of a block, past the mirror and the pair; the empty text, if it can't be read.
func (w *world) copy(side, block int) string {
	s, _ := w.d[side].Read(w.sector(side, block))
	return s
}

func (w *world) copies(block int) [2]string {
	return [2]string{w.copy(0, block), w.copy(1, block)}
}

func (w *world) has(t *testing.T, block int, want [2]string) {
	t.Helper()
	if got := w.copies(block); got != want {
		t.Errorf("the copies of the block %d are %q, not %q", block, got, want)
	}
}

// tells: the repairs, the bad places, and whether one side is gone.
func (w *world) tells(t *testing.T, repairs int, degraded bool, bad ...Place) {
	t.Helper()
	if n := w.m.Repairs(); n != repairs {
		t.Errorf("%d repairs, not %d", n, repairs)
	}
	if w.m.Degraded() != degraded {
		t.Errorf("degraded: %v", !degraded)
	}
	if got := w.m.Bad(); !slices.Equal(got, bad) {
		t.Errorf("bad are %v, not %v", got, bad)
	}
}

// moved: which blocks of both sides are at spares.
func (w *world) moved(t *testing.T, first, second []int) {
	t.Helper()
	for side, want := range [][]int{first, second} {
		if got := w.p.Table(side).Moved(); !slices.Equal(got, want) {
			t.Errorf("of the side %d the blocks %v were moved, not %v", side, got, want)
		}
	}
}

// sectors: what reads on both devices, a bad sector's as the empty text.
func (w *world) sectors() [2][]string {
	var all [2][]string
	for side, d := range w.d {
		for i := range shape.Sectors {
			s, _ := d.Read(i)
			all[side] = append(all[side], s)
		}
	}
	return all
}

// stays: nothing on both devices is otherwise than it was.
func (w *world) stays(t *testing.T, before [2][]string) {
	t.Helper()
	for side, all := range w.sectors() {
		for i, s := range all {
			if s != before[side][i] {
				t.Errorf("the sector %d of the side %d has %q, not %q", i, side, s, before[side][i])
			}
		}
	}
}

// done: how many writes and flushes both devices did.
func (w *world) done() [2][2]int {
	var all [2][2]int
	for side, d := range w.d {
		_, all[side][0], all[side][1] = d.Count()
	}
	return all
}

// sealed: an image of any head and payload, by other means than the program's.
func sealed(size int, kind byte, addr int, gen uint64, payload string) string {
	b := append([]byte("TRNL"), kind, 0)
	b = binary.LittleEndian.AppendUint16(b, uint16(len(payload)))
	b = binary.LittleEndian.AppendUint32(b, uint32(addr))
	b = binary.LittleEndian.AppendUint64(b, gen)
	b = append(append(b, 0, 0, 0, 0), payload...)
	b = append(b, make([]byte, size-len(b))...)
	binary.LittleEndian.PutUint32(b[20:], crc32.Checksum(b, crc32.MakeTable(crc32.Castagnoli)))
	return string(b)
}

// known: what is known of an image's block.
func known(image string) env.Ptr {
	b := []byte(image)
	return env.Ptr{Addr: int(binary.LittleEndian.Uint32(b[8:])), Gen: binary.LittleEndian.Uint64(b[12:]), Sum: binary.LittleEndian.Uint32(b[20:])}
}

// P8.1: New and Pair; each call of a nil mirror.

func TestNewOfANilPair(t *testing.T) {
	if m, e := New(nil); m != nil || e != api.ErrNil {
		t.Errorf("%v, %v", m, e)
	}
}

func TestNew(t *testing.T) {
	w := made(t, spares)
	before, done := w.sectors(), w.done()
	m := over(t, w.p)
	if m.Pair() != w.p || w.m.Pair() != w.p {
		t.Error("the pair is another one")
	}
	w.tells(t, 0, false)
	w.stays(t, before)
	if w.done() != done {
		t.Error("New wrote")
	}
	w.d[0].Kill()
	w.d[1].Kill()
	if m := over(t, w.p); m.Pair() != w.p || !m.Degraded() || m.Repairs() != 0 || len(m.Bad()) != 0 {
		t.Error("of gone devices")
	}
}

func TestCallsOfANilMirror(t *testing.T) {
	var m *Mirror
	if m.Pair() != nil || m.Repairs() != 0 || len(m.Bad()) != 0 || m.Degraded() {
		t.Errorf("%v, %d, %v, %v", m.Pair(), m.Repairs(), m.Bad(), m.Degraded())
	}
	told(t, "Flush", m.Flush(), api.ErrNil)
	for _, block := range append([]int{0, 4, 8}, notBlocks...) {
		refusesBlock(t, m, block, api.ErrNil)
	}
}

// refusesBlock: each call of a block tells that error, and nothing beside it.
func refusesBlock(t *testing.T, m *Mirror, block int, want api.Errno) {
	t.Helper()
	for _, image := range append(notImages(), page("z")) {
		told(t, "Write", m.Write(block, image), want)
		if n, e := m.Heal(block, image); n != 0 || e != want {
			t.Errorf("Heal(%d): %d, %v, not %v", block, n, e, want)
		}
	}
	if l, e := m.Images(block); len(l) != 0 || e != want {
		t.Errorf("Images(%d): %q, %v, not %v", block, l, e, want)
	}
	for _, p := range []env.Ptr{{Addr: block}, {Addr: block, Gen: 7, Sum: 1}, {Addr: block, Gen: math.MaxUint64, Sum: math.MaxUint32}} {
		refusesPtr(t, m, p, want)
	}
}

func refusesPtr(t *testing.T, m *Mirror, p env.Ptr, want api.Errno) {
	t.Helper()
	if k, s, e := m.Read(p); k != 0 || s != "" || e != want {
		t.Errorf("Read(%v): %d, %q, %v, not %v", p, k, s, e, want)
	}
	if n, e := m.Check(p); n != 0 || e != want {
		t.Errorf("Check(%v): %d, %v, not %v", p, n, e, want)
	}
	if l, e := m.Whole(p); l != [2]bool{} || e != want {
		t.Errorf("Whole(%v): %v, %v, not %v", p, l, e, want)
	}
}

// TestBlocksThatThereAreNot: ErrRange is told ahead of all but ErrNil: of an image of a wrong length, of the power, of gone devices.
func TestBlocksThatThereAreNot(t *testing.T) {
	w := made(t, spares)
	before, done := w.sectors(), w.done()
	for _, block := range notBlocks {
		refusesBlock(t, w.m, block, api.ErrRange)
	}
	w.stays(t, before)
	if w.done() != done {
		t.Error("a refused call wrote")
	}
	w.d[0].Fuse(1)
	told(t, "the fuse", w.m.Flush(), api.ErrPower)
	for _, block := range notBlocks {
		refusesBlock(t, w.m, block, api.ErrRange)
	}
	for side := range remap.Sides {
		w.d[side].Crash(nil)
		w.d[side].Kill()
		for _, block := range notBlocks {
			refusesBlock(t, w.m, block, api.ErrRange)
		}
	}
	w.tells(t, 0, true)
}

// TestTheFirstAndTheLastBlock: of pairs with other spares, too: each block is a block, the next number isn't.
func TestTheFirstAndTheLastBlock(t *testing.T) {
	for n := range 11 {
		w := made(t, n)
		last := 16 - slots - n - 1
		for _, block := range []int{0, last} {
			image := sealed(128, 5, block, 3, "x")
			writes(t, w.m, block, image)
			w.has(t, block, [2]string{image, image})
			if k, s, e := w.m.Read(known(image)); k != env.Node || s != "x" || e != api.OK {
				t.Errorf("%d spares, the block %d: %d, %q, %v", n, block, k, s, e)
			}
		}
		refusesBlock(t, w.m, last+1, api.ErrRange)
		refusesBlock(t, w.m, -1, api.ErrRange)
	}
}

// P8.1: Write.

func TestWriteOfEachBlock(t *testing.T) {
	w := made(t, spares)
	want := w.sectors()
	for _, round := range []int{0, 1} {
		for block := range blocks {
			image := page(string([]byte{byte('A' + 32*round + block)}))
			writes(t, w.m, block, image)
			for side := range remap.Sides {
				want[side][slots+block] = image
			}
			w.stays(t, want)
		}
	}
	if w.d[0].Media(slots) == want[0][slots] || w.d[1].Media(slots) == want[1][slots] {
		t.Error("Write flushes")
	}
	w.moved(t, nil, nil)
	w.tells(t, 0, false)
}

// TestWriteOfTheSizes: an image has just a sector's bytes.
func TestWriteOfTheSizes(t *testing.T) {
	for _, size := range []int{128, 192, 512, 1024} {
		s := dev.Shape{Sectors: 8, Size: size}
		p, e := remap.Format(device(t, s), device(t, s), 1)
		if e != api.OK {
			t.Fatal(e)
		}
		m := over(t, p)
		for n := range 1100 {
			image, want := strings.Repeat("w", n), api.ErrArg
			if n == size {
				want = api.OK
			}
			if e := m.Write(1, image); e != want {
				t.Errorf("%d bytes of %d: %v, not %v", n, size, e, want)
			}
			if _, e := m.Heal(2, image); e != want {
				t.Errorf("Heal with %d bytes of %d: %v, not %v", n, size, e, want)
			}
		}
	}
}

// refusesImages: of a block that there is, Write and Heal tell ErrArg of an image of a wrong length, whatever the devices are.
func refusesImages(t *testing.T, w *world) {
	t.Helper()
	before, done, repairs, bad := w.sectors(), w.done(), w.m.Repairs(), w.m.Bad()
	for _, image := range notImages() {
		for block := range blocks {
			told(t, "Write of a wrong length", w.m.Write(block, image), api.ErrArg)
			if n, e := w.m.Heal(block, image); n != 0 || e != api.ErrArg {
				t.Errorf("Heal of a wrong length: %d, %v", n, e)
			}
		}
	}
	w.stays(t, before)
	if w.done() != done || w.m.Repairs() != repairs || !slices.Equal(w.m.Bad(), bad) {
		t.Error("a refused call did something")
	}
}

func TestWriteOfAWrongLength(t *testing.T) {
	w := made(t, spares)
	writes(t, w.m, 4, page("v"))
	refusesImages(t, w)
	w.d[0].Stick(slots + 4)
	w.d[1].Stick(slots + 4)
	refusesImages(t, w)
	for side := range remap.Sides {
		w.d[side].Fuse(1)
		told(t, "the fuse", w.p.Flush(side), api.ErrPower)
		refusesImages(t, w)
		w.d[side].Crash(nil)
	}
	for side := range remap.Sides {
		w.d[side].Kill()
		refusesImages(t, w)
	}
}

// TestWriteWithOneSideGone: the other one is written, and nothing is asked of the one that is gone.
func TestWriteWithOneSideGone(t *testing.T) {
	for side := range remap.Sides {
		w := made(t, spares)
		writes(t, w.m, 4, page("v"))
		w.d[side].Kill()
		done := w.done()
		writes(t, w.m, 4, page("w"))
		done[1-side][0]++
		if w.done() != done {
			t.Errorf("%v, not %v", w.done(), done)
		}
		if w.copy(1-side, 4) != page("w") {
			t.Errorf("the side %d has %q", 1-side, w.copy(1-side, 4))
		}
		w.tells(t, 0, true)
		if l, e := w.m.Images(4); !slices.Equal(l, []string{page("w")}) || e != api.OK {
			t.Errorf("%q, %v", l, e)
		}
	}
}

func TestWriteWithBothSidesGone(t *testing.T) {
	w := made(t, 0)
	w.d[0].Stick(slots + 4)
	w.d[1].Stick(slots + 5)
	w.d[0].Kill()
	w.d[1].Kill()
	for block := range 12 {
		told(t, "Write", w.m.Write(block, page("w")), api.ErrLost)
	}
	w.tells(t, 0, true)
}

// TestWriteOfABadSectorWithSpares: on one side, and on both.
func TestWriteOfABadSectorWithSpares(t *testing.T) {
	for _, sides := range [][]int{{0}, {1}, {0, 1}} {
		w := made(t, spares)
		writes(t, w.m, 4, page("v"))
		var moved [2][]int
		for _, side := range sides {
			w.d[side].Stick(slots + 4)
			moved[side] = []int{4}
		}
		writes(t, w.m, 4, page("w"))
		w.has(t, 4, [2]string{page("w"), page("w")})
		w.moved(t, moved[0], moved[1])
		w.tells(t, 0, false)
	}
}

// TestWriteOfABadSectorWithoutSpares: the other side is written, and tells OK; ErrMedia, if there is none.
func TestWriteOfABadSectorWithoutSpares(t *testing.T) {
	for side := range remap.Sides {
		w := made(t, 0)
		writes(t, w.m, 4, page("v"))
		w.d[side].Stick(slots + 4)
		writes(t, w.m, 4, page("w"))
		var want [2]string
		want[1-side] = page("w")
		w.has(t, 4, want)
		w.tells(t, 0, false, Place{side, 4})
		w.d[1-side].Stick(slots + 4)
		told(t, "Write", w.m.Write(4, page("x")), api.ErrMedia)
		w.has(t, 4, [2]string{})
		w.tells(t, 0, false, Place{0, 4}, Place{1, 4})
		writes(t, w.m, 5, page("y"))
		w.has(t, 5, [2]string{page("y"), page("y")})
	}
}

// TestWriteOfABadSectorWithTheOtherSideGone: ErrMedia, as one side is there still.
func TestWriteOfABadSectorWithTheOtherSideGone(t *testing.T) {
	for side := range remap.Sides {
		w := made(t, 0)
		w.d[side].Stick(slots + 4)
		w.d[1-side].Kill()
		told(t, "Write", w.m.Write(4, page("w")), api.ErrMedia)
		w.tells(t, 0, true, Place{side, 4})
		told(t, "Write of another block", w.m.Write(3, page("w")), api.OK)
		w.d[side].Kill()
		told(t, "Write", w.m.Write(4, page("w")), api.ErrLost)
		w.tells(t, 0, true, Place{side, 4})
	}
}

// slotsBad: no table of the next generation can be kept, so that a move is ErrLost, though no device is gone.
func slotsBad(w *world) {
	for _, d := range w.d {
		d.Stick(1)
		d.Stick(3)
	}
}

func TestWriteWhereTheTableIsNotKept(t *testing.T) {
	for side := range remap.Sides {
		w := made(t, spares)
		slotsBad(w)
		w.d[side].Stick(slots + 4)
		told(t, "layer 7's Write", w.p.Write(side, 4, page("v")), api.ErrLost)
		writes(t, w.m, 4, page("w"))
		if w.copy(1-side, 4) != page("w") {
			t.Errorf("the side %d has %q", 1-side, w.copy(1-side, 4))
		}
		w.tells(t, 0, false)
		w.d[1-side].Stick(slots + 4)
		told(t, "Write", w.m.Write(4, page("x")), api.ErrMedia)
		w.tells(t, 0, false)
		w.moved(t, nil, nil)
	}
}

// P8.1: Flush.

func TestFlush(t *testing.T) {
	w := made(t, spares)
	writes(t, w.m, 4, page("w"))
	done := w.done()
	told(t, "Flush", w.m.Flush(), api.OK)
	for side, d := range w.d {
		done[side][1]++
		if d.Media(slots+4) != page("w") {
			t.Errorf("the side %d isn't flushed", side)
		}
	}
	if w.done() != done {
		t.Errorf("%v, not %v", w.done(), done)
	}
	told(t, "Flush of nothing", w.m.Flush(), api.OK)
	w.tells(t, 0, false)
}

func TestFlushWithSidesGone(t *testing.T) {
	for side := range remap.Sides {
		w := made(t, spares)
		writes(t, w.m, 4, page("w"))
		w.d[side].Kill()
		done := w.done()
		told(t, "Flush", w.m.Flush(), api.OK)
		done[1-side][1]++
		if w.d[1-side].Media(slots+4) != page("w") || w.d[side].Media(slots+4) == page("w") || w.done() != done {
			t.Errorf("with the side %d gone: %v", side, w.done())
		}
		w.d[1-side].Kill()
		told(t, "Flush", w.m.Flush(), api.ErrLost)
		w.tells(t, 0, true)
	}
}
