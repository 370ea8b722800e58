package remap

import (
	"encoding/binary"
	"hash/crc32"
	"math"
	"strings"
	"testing"

	"treenail/api"
	"treenail/dev"
	"treenail/table"
)

// The shape of most tests' devices, and how many blocks it has with so many spares.
var shape = dev.Shape{Sectors: 16, Size: 128}

const (
	spares = 3
	blocks = 9
)

// Numbers that are no side's, and such of which the last 8, 16 or 32 bits alone are one's.
var notSides = []int{-1, -2, 2, 3, 256, 257, 1 << 16, 1<<16 + 1, 1 << 32, 1<<32 + 1, math.MinInt, math.MinInt + 1, math.MaxInt - 1, math.MaxInt}

// notBlocks: the same of blocks; the ones behind the last one have a sector, but are none.
var notBlocks = []int{-1, -2, -4, -5, blocks, blocks + 1, blocks + spares - 1, blocks + spares, 16, 4096, 1 << 16, 1 << 32, 1<<32 + 3, math.MinInt, math.MinInt + 3, math.MaxInt - 1, math.MaxInt}

// unlike: shapes of devices that are in no pair with those of most tests.
func unlike() []dev.Shape {
	return []dev.Shape{{Sectors: 16, Size: 192}, {Sectors: 17, Size: 128}, {Sectors: 15, Size: 128}, {Sectors: 8, Size: 128}, {Sectors: 4096, Size: 1024}}
}

func page(c string) string { return strings.Repeat(c, shape.Size) }

func device(t *testing.T, s dev.Shape) *dev.Device {
	t.Helper()
	d, e := dev.New(s)
	if e != api.OK {
		t.Fatalf("dev.New(%v): %v", s, e)
	}
	return d
}

// filled: a device of that shape on whose sectors different texts last.
func filled(t *testing.T, s dev.Shape) *dev.Device {
	t.Helper()
	d := device(t, s)
	for i := range s.Sectors {
		d.Write(i, strings.Repeat(string([]byte{byte('A' + i%64)}), s.Size))
	}
	if e := d.Flush(); e != api.OK {
		t.Fatal(e)
	}
	return d
}

func formats(t *testing.T, a, b *dev.Device, spares int) *Pair {
	t.Helper()
	p, e := Format(a, b, spares)
	if e != api.OK || p == nil {
		t.Fatalf("Format: %v, %v", p, e)
	}
	return p
}

func opens(t *testing.T, a, b *dev.Device, spares int) *Pair {
	t.Helper()
	p, e := Open(a, b, spares)
	if e != api.OK || p == nil {
		t.Fatalf("Open: %v, %v", p, e)
	}
	return p
}

// made: a new pair, of new devices.
func made(t *testing.T) (*Pair, *dev.Device, *dev.Device) {
	t.Helper()
	a, b := device(t, shape), device(t, shape)
	return formats(t, a, b, spares), a, b
}

func moves(t *testing.T, p *Pair, side int, list ...int) {
	t.Helper()
	for _, block := range list {
		if e := p.Move(side, block); e != api.OK {
			t.Fatalf("Move(%d, %d): %v", side, block, e)
		}
	}
}

func writes(t *testing.T, p *Pair, side, block int, image string) {
	t.Helper()
	if e := p.Write(side, block, image); e != api.OK {
		t.Fatalf("Write(%d, %d): %v", side, block, e)
	}
}

func reads(t *testing.T, p *Pair, side, block int, want string) {
	t.Helper()
	if s, e := p.Read(side, block); s != want || e != api.OK {
		t.Errorf("Read(%d, %d) = %q, %v, not %q", side, block, s, e, want)
	}
}

func told(t *testing.T, what string, e, want api.Errno) {
	t.Helper()
	if e != want {
		t.Errorf("%s: %v, not %v", what, e, want)
	}
}

// refuses: both ways to a pair are refused with the same error.
func refuses(t *testing.T, a, b *dev.Device, spares int, want api.Errno) {
	t.Helper()
	if p, e := Format(a, b, spares); p != nil || e != want {
		t.Errorf("Format with %d spares: %v, %v, not %v", spares, p, e, want)
	}
	if p, e := Open(a, b, spares); p != nil || e != want {
		t.Errorf("Open with %d spares: %v, %v, not %v", spares, p, e, want)
	}
}

func refusesOpen(t *testing.T, a, b *dev.Device, spares int, want api.Errno) {
	t.Helper()
	if p, e := Open(a, b, spares); p != nil || e != want {
		t.Errorf("Open: %v, %v, not %v", p, e, want)
	}
}

// tableIs: the side's table is the one in which these were moved.
func tableIs(t *testing.T, p *Pair, side int, moved ...int) {
	t.Helper()
	x, e := table.New(blocks, spares)
	for _, block := range moved {
		if e == api.OK {
			x, e = x.Move(block)
		}
	}
	if e != api.OK || p.Table(side) != x {
		t.Errorf("the side %d has the table %q, not %q (%v)", side, p.Table(side).Text(), x.Text(), e)
	}
}

// sealed: an image of any head and payload, by other means than the program's.
func sealed(size int, kind byte, addr int, gen uint64, payload string) string {
	b := append([]byte("TRNL"), kind, 0)
	b = binary.LittleEndian.AppendUint16(b, uint16(len(payload)))
	b = binary.LittleEndian.AppendUint32(b, uint32(addr))
	b = binary.LittleEndian.AppendUint64(b, gen)
	b = append(append(b, 0, 0, 0, 0), payload...)
	b = append(b, make([]byte, size-len(b))...)
	binary.LittleEndian.PutUint32(b[20:], crc32.Checksum(b, crc32.MakeTable(crc32.Castagnoli)))
	return string(b)
}

// textOf: a table's bytes, which needn't be any's.
func textOf(gen uint64, moved ...int) string {
	b := binary.LittleEndian.AppendUint64(nil, gen)
	for _, block := range moved {
		b = binary.LittleEndian.AppendUint16(b, uint16(block))
	}
	return string(b)
}

// imageOf: the image of a side's table in which these were moved.
func imageOf(size, side int, moved ...int) string {
	gen := uint64(len(moved))
	return sealed(size, 2, side, gen, textOf(gen, moved...))
}

// lasting: what lasts on a device.
func lasting(d *dev.Device) []string {
	var all []string
	for i := range d.Shape().Sectors {
		all = append(all, d.Media(i))
	}
	return all
}

// puts writes a text that lasts.
func puts(t *testing.T, d *dev.Device, i int, s string) {
	t.Helper()
	if e := d.Write(i, s); e != api.OK {
		t.Fatal(e)
	}
	if e := d.Flush(); e != api.OK {
		t.Fatal(e)
	}
}

func lasts(t *testing.T, d *dev.Device, want []string) {
	t.Helper()
	for i, s := range lasting(d) {
		if s != want[i] {
			t.Errorf("the sector %d has %q, not %q", i, s, want[i])
		}
	}
}

func counted(t *testing.T, d *dev.Device, writes, flushes int) {
	t.Helper()
	if _, w, f := d.Count(); w != writes || f != flushes {
		t.Errorf("%d writes, %d flushes, not %d, %d", w, f, writes, flushes)
	}
}

// P7.1: Blocks.

func TestSidesAndSlots(t *testing.T) {
	if Sides != 2 || Slots != 4 {
		t.Errorf("%d sides, %d slots", Sides, Slots)
	}
}

func TestBlocksOfTheExample(t *testing.T) {
	if n := Blocks(dev.Shape{Sectors: 64, Size: 128}, 4); n != 56 {
		t.Errorf("%d blocks", n)
	}
}

// TestBlocksOfEachCount: of each number of sectors and of spares, also of some that may not be. A table with 32 spares used is 72 bytes, so that the least size has room for each.
func TestBlocksOfEachCount(t *testing.T) {
	for _, size := range []int{128, 192, 576, 1024} {
		for sectors := -10; sectors <= 4200; sectors++ {
			for spares := -2; spares <= 34; spares++ {
				want := sectors - 4 - spares
				if sectors < 8 || sectors > 4096 || spares < 0 || spares > 32 || want < 2 {
					want = 0
				}
				if n := Blocks(dev.Shape{Sectors: sectors, Size: size}, spares); n != want {
					t.Fatalf("%d sectors of %d bytes, %d spares: %d blocks, not %d", sectors, size, spares, n, want)
				}
			}
		}
	}
}

func TestBlocksOfEachSize(t *testing.T) {
	for size := -200; size <= 2200; size++ {
		want := 0
		if size == 128+(size-128)/64*64 && size >= 128 && size <= 1024 {
			want = 64 - 4 - 32
		}
		if n := Blocks(dev.Shape{Sectors: 64, Size: size}, 32); n != want {
			t.Errorf("sectors of %d bytes: %d blocks, not %d", size, n, want)
		}
	}
}

func TestBlocksOfTheEndsOfTheInts(t *testing.T) {
	ends := []int{math.MinInt, math.MinInt + 1, math.MinInt + 4, math.MinInt + 64, math.MinInt + 5000, -1 << 32, -1, 1 << 32, 1<<32 + 64, math.MaxInt - 64, math.MaxInt - 3, math.MaxInt}
	for _, end := range ends {
		for _, n := range []int{Blocks(dev.Shape{Sectors: end, Size: 128}, 4), Blocks(dev.Shape{Sectors: 64, Size: end}, 4), Blocks(dev.Shape{Sectors: 64, Size: 128}, end)} {
			if n != 0 {
				t.Errorf("of %d: %d blocks", end, n)
			}
		}
		for _, other := range ends {
			if n := Blocks(dev.Shape{Sectors: end, Size: 128}, other); n != 0 {
				t.Errorf("of %d sectors, %d spares: %d blocks", end, other, n)
			}
		}
	}
}

// P7.1: Format and Open, refused.

func TestNilDevices(t *testing.T) {
	d := device(t, shape)
	for _, spares := range []int{spares, 0, -1, 33, math.MinInt, math.MaxInt} {
		refuses(t, nil, nil, spares, api.ErrNil)
		refuses(t, d, nil, spares, api.ErrNil)
		refuses(t, nil, d, spares, api.ErrNil)
	}
}

func TestDevicesThatAreNoPair(t *testing.T) {
	a, b := filled(t, shape), filled(t, shape)
	whole := lasting(a)
	for _, s := range unlike() {
		other := device(t, s)
		refuses(t, a, other, spares, api.ErrArg)
		refuses(t, other, a, spares, api.ErrArg)
	}
	refuses(t, a, a, spares, api.ErrArg)
	for _, spares := range []int{-1, 11, 12, 16, 32, 33, math.MinInt, math.MaxInt} {
		refuses(t, a, b, spares, api.ErrArg)
	}
	small := dev.Shape{Sectors: 8, Size: 128}
	refuses(t, device(t, small), device(t, small), 3, api.ErrArg)
	refuses(t, new(dev.Device), new(dev.Device), 0, api.ErrArg)
	a.Fuse(1)
	told(t, "a write", a.Write(0, page("z")), api.ErrPower)
	refuses(t, a, a, spares, api.ErrArg)
	refuses(t, a, b, 33, api.ErrArg)
	lasts(t, a, whole)
	lasts(t, b, whole)
}

// TestFormatAtTheBounds: of shapes and spares at which there are just two blocks, and at which there are most.
func TestFormatAtTheBounds(t *testing.T) {
	for _, c := range []struct{ sectors, size, spares, blocks int }{{8, 128, 0, 4}, {8, 128, 2, 2}, {16, 192, 10, 2}, {38, 128, 32, 2}, {4096, 1024, 0, 4092}, {4096, 128, 32, 4060}} {
		s := dev.Shape{Sectors: c.sectors, Size: c.size}
		a, b := device(t, s), device(t, s)
		for _, p := range []*Pair{formats(t, a, b, c.spares), opens(t, a, b, c.spares)} {
			for side := range Sides {
				want, e := table.New(c.blocks, c.spares)
				if x := p.Table(side); x != want || e != api.OK {
					t.Errorf("%v: %d blocks, %d spares, the generation %d", c, x.Blocks(), x.Left(), x.Gen())
				}
				last := strings.Repeat("z", c.size)
				writes(t, p, side, c.blocks-1, last)
				reads(t, p, side, c.blocks-1, last)
			}
		}
	}
}

// P7.1: what Format leaves.

// TestFormatByteByByte: each side's table into the slot 0 of its own device, and into the slot 2 of the other one; all else stays, also what an elder pair left in the other slots.
func TestFormatByteByByte(t *testing.T) {
	for _, s := range []dev.Shape{shape, {Sectors: 64, Size: 1024}} {
		a, b := filled(t, s), filled(t, s)
		first, second := lasting(a), lasting(b)
		p := formats(t, a, b, spares)
		first[0], first[2] = imageOf(s.Size, 0), imageOf(s.Size, 1)
		second[0], second[2] = imageOf(s.Size, 1), imageOf(s.Size, 0)
		lasts(t, a, first)
		lasts(t, b, second)
		counted(t, a, s.Sectors+2, 1+2)
		counted(t, b, s.Sectors+2, 1+2)
		if p.Device(0) != a || p.Device(1) != b || p.Table(0) != p.Table(1) || p.Table(0).Gen() != 0 || p.Table(0).Left() != spares {
			t.Errorf("%v", p)
		}
	}
}

func TestTheFirstImageByHand(t *testing.T) {
	_, a, b := made(t)
	image := "TRNL\x02\x00\x08\x00" + "\x01\x00\x00\x00" + "\x00\x00\x00\x00\x00\x00\x00\x00"
	for _, s := range []string{b.Media(0), a.Media(2)} {
		if s[:20] != image || s[24:] != strings.Repeat("\x00", 104) || s != imageOf(128, 1) {
			t.Errorf("%q", s)
		}
	}
}

// P7.1: Format with devices that are gone, and slots that are bad.

func TestFormatWithOneDeviceGone(t *testing.T) {
	for side := range Sides {
		d := [Sides]*dev.Device{device(t, shape), device(t, shape)}
		d[side].Kill()
		p := formats(t, d[0], d[1], spares)
		left := d[1-side]
		if left.Media(0) != imageOf(128, 1-side) || left.Media(2) != imageOf(128, side) {
			t.Errorf("the side %d has %q", 1-side, lasting(left)[:4])
		}
		counted(t, d[side], 0, 0)
		for _, q := range []*Pair{p, opens(t, d[0], d[1], spares)} {
			if q.Alive(side) || !q.Alive(1-side) {
				t.Errorf("the side %d is gone: %v, %v", side, q.Alive(0), q.Alive(1))
			}
			tableIs(t, q, 0)
			tableIs(t, q, 1)
		}
	}
}

func TestFormatWithBothDevicesGone(t *testing.T) {
	a, b := device(t, shape), device(t, shape)
	a.Kill()
	b.Kill()
	if p, e := Format(a, b, spares); p != nil || e != api.ErrLost {
		t.Errorf("%v, %v", p, e)
	}
	refusesOpen(t, a, b, spares, api.ErrCorrupt)
	lasts(t, a, lasting(device(t, shape)))
}

// TestFormatWithOneBadSlot: the device is passed over for that table alone, and isn't flushed for it.
func TestFormatWithOneBadSlot(t *testing.T) {
	for side := range Sides {
		for _, slot := range []int{0, 2} {
			d := [Sides]*dev.Device{device(t, shape), device(t, shape)}
			d[side].Stick(slot)
			formats(t, d[0], d[1], spares)
			counted(t, d[side], 1, 1)
			counted(t, d[1-side], 2, 2)
			p := opens(t, d[0], d[1], spares)
			tableIs(t, p, 0)
			tableIs(t, p, 1)
		}
		d := [Sides]*dev.Device{device(t, shape), device(t, shape)}
		d[side].Stick(1)
		d[side].Stick(3)
		formats(t, d[0], d[1], spares)
		counted(t, d[side], 2, 2)
	}
}

// TestFormatWhereATableIsNotKept: its slots are bad on both devices, or one is bad and the other device gone.
func TestFormatWhereATableIsNotKept(t *testing.T) {
	for side := range Sides {
		d := [Sides]*dev.Device{filled(t, shape), filled(t, shape)}
		d[side].Stick(0)
		d[1-side].Stick(2)
		if p, e := Format(d[0], d[1], spares); p != nil || e != api.ErrLost {
			t.Errorf("%v, %v", p, e)
		}
		refusesOpen(t, d[0], d[1], spares, api.ErrCorrupt)
		for _, slot := range []int{0, 2} {
			d := [Sides]*dev.Device{filled(t, shape), filled(t, shape)}
			d[side].Stick(slot)
			d[1-side].Kill()
			if p, e := Format(d[0], d[1], spares); p != nil || e != api.ErrLost {
				t.Errorf("%v, %v", p, e)
			}
		}
	}
}

// P7.1: Format as the power fails.

func TestFormatAsThePowerFails(t *testing.T) {
	for side := range Sides {
		for n := 1; n <= 5; n++ {
			d := [Sides]*dev.Device{device(t, shape), device(t, shape)}
			d[side].Fuse(n)
			p, e := Format(d[0], d[1], spares)
			if n == 5 {
				told(t, "Format ahead of the fuse", e, api.OK)
				continue
			}
			if p != nil || e != api.ErrPower || !d[side].Off() {
				t.Errorf("the fuse %d of the side %d: %v, %v", n, side, p, e)
			}
			refuses(t, d[0], d[1], spares, api.ErrPower)
			d[side].Crash(nil)
			formats(t, d[0], d[1], spares)
		}
	}
}

// TestThePowerOfADeviceThatIsGone: Format and Move pass it over; Open tells of the power of each.
func TestThePowerOfADeviceThatIsGone(t *testing.T) {
	for side := range Sides {
		p, a, b := made(t)
		d := p.Device(side)
		d.Fuse(1)
		told(t, "the fuse", d.Flush(), api.ErrPower)
		refusesOpen(t, a, b, spares, api.ErrPower)
		told(t, "Move", p.Move(side, 1), api.ErrPower)
		d.Kill()
		refusesOpen(t, a, b, spares, api.ErrPower)
		told(t, "Move", p.Move(side, 1), api.OK)
		formats(t, a, b, spares)
		p.Device(1 - side).Kill()
		told(t, "Move", p.Move(1-side, 1), api.ErrLost)
	}
}
