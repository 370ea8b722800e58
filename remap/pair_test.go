package remap

import (
	"slices"
	"strings"
	"testing"

	"treenail/api"
	"treenail/dev"
	"treenail/table"
)

// P7.2

func TestWhatAPairTells(t *testing.T) {
	p, a, b := made(t)
	if p.Device(0) != a || p.Device(1) != b || !p.Alive(0) || !p.Alive(1) {
		t.Error("the devices")
	}
	moves(t, p, 1, 5)
	tableIs(t, p, 0)
	tableIs(t, p, 1, 5)
	moves(t, p, 0, 6, 7)
	tableIs(t, p, 0, 6, 7)
	tableIs(t, p, 1, 5)
	b.Kill()
	if p.Device(1) != b || !p.Alive(0) || p.Alive(1) {
		t.Error("the side 1 is gone")
	}
	tableIs(t, p, 1, 5)
	a.Fuse(1)
	told(t, "the fuse", a.Flush(), api.ErrPower)
	if !p.Alive(0) {
		t.Error("the power of the side 0 failed, but it is there")
	}
	a.Kill()
	if p.Alive(0) || p.Device(0) != a {
		t.Error("the side 0 is gone")
	}
}

// answersOf: each call of a side with one error, and nothing beside it.
func answersOf(t *testing.T, p *Pair, side, block int, want api.Errno) {
	t.Helper()
	if p.Device(side) != nil || p.Table(side) != (table.Table{}) || p.Alive(side) {
		t.Errorf("of the side %d: %v, %v, %v", side, p.Device(side), p.Table(side), p.Alive(side))
	}
	told(t, "Flush", p.Flush(side), want)
	if p != nil {
		told(t, "Replace", p.Replace(side, device(t, shape)), want)
	}
	refusesBlock(t, p, side, block, want)
}

func refusesBlock(t *testing.T, p *Pair, side, block int, want api.Errno) {
	t.Helper()
	if s, e := p.Read(side, block); s != "" || e != want {
		t.Errorf("Read(%d, %d) = %q, %v, not %v", side, block, s, e, want)
	}
	told(t, "Write", p.Write(side, block, page("z")), want)
	told(t, "Write of no image", p.Write(side, block, ""), want)
	told(t, "Move", p.Move(side, block), want)
}

func TestCallsOfANilPair(t *testing.T) {
	var p *Pair
	for _, side := range append([]int{0, 1}, notSides...) {
		for _, block := range append([]int{0, 1, 8}, notBlocks...) {
			answersOf(t, p, side, block, api.ErrNil)
		}
		told(t, "Replace", p.Replace(side, device(t, shape)), api.ErrNil)
		told(t, "Replace by nil", p.Replace(side, nil), api.ErrNil)
	}
}

func TestCallsOfASideThatThereIsNot(t *testing.T) {
	p, a, b := made(t)
	first, second := lasting(a), lasting(b)
	for _, side := range notSides {
		for _, block := range append([]int{0, 1, 8}, notBlocks...) {
			answersOf(t, p, side, block, api.ErrArg)
		}
	}
	lasts(t, a, first)
	lasts(t, b, second)
	for _, d := range []*dev.Device{a, b} {
		counted(t, d, 2, 2)
	}
}

// P7.3: Read and Write.

func TestEachBlock(t *testing.T) {
	p, a, b := made(t)
	name := func(side, block int) string { return page(string([]byte{byte('A' + 32*side + block)})) }
	for side := range Sides {
		for block := range blocks {
			writes(t, p, side, block, name(side, block))
		}
	}
	for _, q := range []*Pair{p, opens(t, a, b, spares)} {
		for side := range Sides {
			for block := range blocks {
				reads(t, q, side, block, name(side, block))
				if s, e := q.Device(side).Read(4 + block); s != name(side, block) || e != api.OK {
					t.Errorf("the sector of the block %d has %q, %v", block, s, e)
				}
			}
		}
	}
	for side := range Sides {
		told(t, "Flush", p.Flush(side), api.OK)
		if d, other := p.Device(side), p.Device(1-side); d.Media(4+8) != name(side, 8) || side == 0 && other.Media(4) == name(1, 0) {
			t.Errorf("the side %d isn't flushed, or the other one is, too", side)
		}
	}
}

func TestBlocksThatThereAreNot(t *testing.T) {
	p, a, b := made(t)
	first, second := lasting(a), lasting(b)
	for side := range Sides {
		for _, block := range notBlocks {
			refusesBlock(t, p, side, block, api.ErrRange)
		}
	}
	lasts(t, a, first)
	lasts(t, b, second)
	counted(t, a, 2, 2)
	moves(t, p, 0, 0, 1, 2)
	a.Kill()
	for _, block := range notBlocks {
		refusesBlock(t, p, 0, block, api.ErrRange)
	}
}

// TestErrorsOfTheDevice: those of layer 3, as they are.
func TestErrorsOfTheDevice(t *testing.T) {
	for side := range Sides {
		p, _, _ := made(t)
		d := p.Device(side)
		for _, image := range []string{"", "z", page("z")[1:], page("z") + "z", strings.Repeat("z", 1024)} {
			told(t, "Write of a wrong length", p.Write(side, 1, image), api.ErrArg)
		}
		d.Stick(4 + 1)
		told(t, "Write of a wrong length into a bad sector", p.Write(side, 1, "z"), api.ErrArg)
		d.Fuse(1)
		told(t, "Write as the power fails", p.Write(side, 2, page("z")), api.ErrPower)
		told(t, "Write without power", p.Write(side, 2, "z"), api.ErrPower)
		told(t, "Flush without power", p.Flush(side), api.ErrPower)
		if s, e := p.Read(side, 2); s != "" || e != api.ErrPower {
			t.Errorf("Read: %q, %v", s, e)
		}
		told(t, "Flush of the other one", p.Flush(1-side), api.OK)
		d.Crash(nil)
		d.Kill()
		told(t, "Write of a gone device", p.Write(side, 1, "z"), api.ErrLost)
		told(t, "Flush of a gone device", p.Flush(side), api.ErrLost)
		if s, e := p.Read(side, 1); s != "" || e != api.ErrLost {
			t.Errorf("Read: %q, %v", s, e)
		}
		tableIs(t, p, side)
		writes(t, p, 1-side, 1, page("y"))
		reads(t, p, 1-side, 1, page("y"))
	}
}

func TestABlockWhoseSectorWentBad(t *testing.T) {
	for side := range Sides {
		for block := range blocks {
			p, a, b := made(t)
			writes(t, p, side, block, page("v"))
			p.Device(side).Stick(4 + block)
			if s, e := p.Read(side, block); s != "" || e != api.ErrMedia {
				t.Errorf("Read: %q, %v", s, e)
			}
			writes(t, p, side, block, page("w"))
			tableIs(t, p, side, block)
			tableIs(t, p, 1-side)
			for _, q := range []*Pair{p, opens(t, a, b, spares)} {
				reads(t, q, side, block, page("w"))
				reads(t, q, 1-side, block, page("\x00"))
			}
			if s, _ := p.Device(side).Read(4 + blocks); s != page("w") {
				t.Errorf("the first spare has %q", s)
			}
		}
	}
}

// TestSpareThatIsBadToo: the block goes on to the next one, in one Write.
func TestSpareThatIsBadToo(t *testing.T) {
	for n := range spares {
		p, a, b := made(t)
		for k := range n + 1 {
			b.Stick([]int{4 + 5, 4 + blocks, 4 + blocks + 1}[k])
		}
		writes(t, p, 1, 5, page("w"))
		tableIs(t, p, 1, slices.Repeat([]int{5}, n+1)...)
		reads(t, p, 1, 5, page("w"))
		reads(t, opens(t, a, b, spares), 1, 5, page("w"))
		if s, _ := b.Read(4 + blocks + n); s != page("w") {
			t.Errorf("the spare %d has %q", n, s)
		}
	}
}

func TestMoreBadSectorsThanSpares(t *testing.T) {
	p, a, b := made(t)
	for block := range blocks {
		writes(t, p, 0, block, page("v"))
		a.Stick(4 + block)
	}
	for block := range blocks {
		want := api.OK
		if block >= spares {
			want = api.ErrSpares
		}
		told(t, "Write", p.Write(0, block, page("w")), want)
	}
	for _, q := range []*Pair{p, opens(t, a, b, spares)} {
		tableIs(t, q, 0, 0, 1, 2)
		for block := range blocks {
			if block < spares {
				reads(t, q, 0, block, page("w"))
			} else if s, e := q.Read(0, block); s != "" || e != api.ErrMedia {
				t.Errorf("%q, %v", s, e)
			}
		}
	}
}

// TestSparesThatAreAllBad: they are used up by one Write, whose moves are kept though it is refused.
func TestSparesThatAreAllBad(t *testing.T) {
	p, a, b := made(t)
	for _, i := range []int{4, 13, 14, 15} {
		a.Stick(i)
	}
	told(t, "Write", p.Write(0, 0, page("w")), api.ErrSpares)
	tableIs(t, p, 0, 0, 0, 0)
	tableIs(t, opens(t, a, b, spares), 0, 0, 0, 0)
	told(t, "Write", p.Write(0, 0, page("w")), api.ErrSpares)
	writes(t, p, 0, 1, page("w"))
	without := formats(t, device(t, shape), device(t, shape), 0)
	without.Device(1).Stick(4)
	told(t, "Write with no spares", without.Write(1, 0, page("w")), api.ErrSpares)
	told(t, "Move with no spares", without.Move(1, 1), api.ErrSpares)
	told(t, "Move with no spares", without.Move(1, 12), api.ErrRange)
}

// TestWritesMoveThatFails: what it answers is the Move's error.
func TestWritesMoveThatFails(t *testing.T) {
	p, a, b := made(t)
	a.Stick(4 + 3)
	a.Stick(1)
	b.Stick(3)
	told(t, "Write", p.Write(0, 3, page("w")), api.ErrLost)
	tableIs(t, p, 0)
	counted(t, a, 2, 2)
	counted(t, b, 2, 2)
	b.Stick(4 + 3)
	a.Fuse(2)
	told(t, "Write", p.Write(1, 3, page("w")), api.ErrPower)
	tableIs(t, p, 1)
}

// P7.3: Move.

// TestMoveByteByByte: the image goes into the slot of its generation on both devices, and all else stays; each device is flushed.
func TestMoveByteByByte(t *testing.T) {
	for _, s := range []dev.Shape{shape, {Sectors: 64, Size: 512}} {
		a, b := filled(t, s), filled(t, s)
		p := formats(t, a, b, 6)
		want := [Sides][]string{lasting(a), lasting(b)}
		var moved [Sides][]int
		for k, block := range []int{1, 5, 1, 2, 0, 0, 3, 4, 5, 5, 5} {
			side := []int{0, 1, 1, 0, 0, 1, 1, 0, 0, 1, 0}[k]
			moves(t, p, side, block)
			moved[side] = append(moved[side], block)
			slot := len(moved[side]) % 2
			want[side][slot] = imageOf(s.Size, side, moved[side]...)
			want[1-side][2+slot] = imageOf(s.Size, side, moved[side]...)
			lasts(t, a, want[0])
			lasts(t, b, want[1])
			counted(t, a, s.Sectors+2+k+1, 1+2+k+1)
			counted(t, b, s.Sectors+2+k+1, 1+2+k+1)
		}
	}
}

func TestMoveFindsTheBlockElsewhere(t *testing.T) {
	p, a, b := made(t)
	for block := range blocks {
		writes(t, p, 0, block, page("v"))
	}
	moves(t, p, 0, 4)
	reads(t, p, 0, 4, page("\x00"))
	writes(t, p, 0, 4, page("w"))
	moves(t, p, 0, 6)
	writes(t, p, 0, 6, page("x"))
	moves(t, p, 0, 4)
	writes(t, p, 0, 4, page("y"))
	told(t, "Flush", p.Flush(0), api.OK)
	for _, q := range []*Pair{p, opens(t, a, b, spares)} {
		tableIs(t, q, 0, 4, 6, 4)
		for block := range blocks {
			want := page("v")
			if block == 4 {
				want = page("y")
			} else if block == 6 {
				want = page("x")
			}
			reads(t, q, 0, block, want)
			told(t, "Move", q.Move(0, block), api.ErrSpares)
		}
		told(t, "Move", q.Move(0, blocks), api.ErrRange)
		tableIs(t, q, 1)
	}
	if a.Media(4+4) != page("v") || a.Media(13) != page("w") || a.Media(14) != page("x") || a.Media(15) != page("y") {
		t.Error("the sectors")
	}
}

func TestMoveWithOneDeviceGone(t *testing.T) {
	for side := range Sides {
		for _, gone := range []int{0, 1} {
			p, a, b := made(t)
			p.Device(gone).Kill()
			moves(t, p, side, 3, 4)
			tableIs(t, p, side, 3, 4)
			tableIs(t, opens(t, a, b, spares), side, 3, 4)
			counted(t, p.Device(gone), 2, 2)
			counted(t, p.Device(1-gone), 4, 4)
			p.Device(1 - gone).Kill()
			told(t, "Move", p.Move(side, 5), api.ErrLost)
			told(t, "Move", p.Move(side, 9), api.ErrRange)
			tableIs(t, p, side, 3, 4)
		}
	}
}

// TestMoveWithBadSlots: with that on one device, with those on both, and with one bad and the other device gone; the next generation is kept in the other slots.
func TestMoveWithBadSlots(t *testing.T) {
	for side := range Sides {
		p, a, b := made(t)
		own, other := p.Device(side), p.Device(1-side)
		own.Stick(1)
		moves(t, p, side, 3)
		tableIs(t, opens(t, a, b, spares), side, 3)
		counted(t, own, 2, 2)
		counted(t, other, 3, 3)
		moves(t, p, side, 4)
		other.Stick(3)
		first, second := lasting(a), lasting(b)
		told(t, "Move", p.Move(side, 5), api.ErrLost)
		lasts(t, a, first)
		lasts(t, b, second)
		counted(t, own, 3, 3)
		counted(t, other, 4, 4)
		for _, q := range []*Pair{p, opens(t, a, b, spares)} {
			tableIs(t, q, side, 3, 4)
			tableIs(t, q, 1-side)
			told(t, "Move", q.Move(side, 5), api.ErrLost)
		}
		moves(t, p, 1-side, 5)
		p, _, _ = made(t)
		p.Device(1 - side).Stick(3)
		moves(t, p, side, 5, 6)
		p.Device(1 - side).Kill()
		p.Device(side).Stick(1)
		told(t, "Move", p.Move(side, 5), api.ErrLost)
		tableIs(t, p, side, 5, 6)
	}
}

func TestMoveAsThePowerFails(t *testing.T) {
	for side := range Sides {
		for fused := range Sides {
			for n := 1; n <= 3; n++ {
				p, a, b := made(t)
				moves(t, p, side, 7)
				p.Device(fused).Fuse(n)
				e := p.Move(side, 3)
				if n == 3 {
					told(t, "Move ahead of the fuse", e, api.OK)
					continue
				}
				told(t, "Move", e, api.ErrPower)
				tableIs(t, p, side, 7)
				refusesOpen(t, a, b, spares, api.ErrPower)
				a.Crash(nil)
				b.Crash(nil)
				q := opens(t, a, b, spares)
				if q.Table(side).Gen() == 1 {
					tableIs(t, q, side, 7)
				} else {
					tableIs(t, q, side, 7, 3)
				}
			}
		}
	}
}

// P7.4

func TestReplaceRefused(t *testing.T) {
	p, a, b := made(t)
	told(t, "Replace by nil", p.Replace(0, nil), api.ErrNil)
	for _, side := range notSides {
		told(t, "Replace by nil", p.Replace(side, nil), api.ErrNil)
		told(t, "Replace", p.Replace(side, device(t, shape)), api.ErrArg)
	}
	for side := range Sides {
		for _, s := range unlike() {
			told(t, "Replace by another shape", p.Replace(side, device(t, s)), api.ErrArg)
		}
		told(t, "Replace by none at all", p.Replace(side, new(dev.Device)), api.ErrArg)
		told(t, "Replace by itself", p.Replace(side, a), api.ErrArg)
		told(t, "Replace by itself", p.Replace(side, b), api.ErrArg)
	}
	a.Kill()
	told(t, "Replace by a gone one of the pair", p.Replace(0, a), api.ErrArg)
	if p.Device(0) != a || p.Device(1) != b {
		t.Error("the devices aren't as they were")
	}
	counted(t, a, 2, 2)
	counted(t, b, 2, 2)
}

// TestReplaceByteByByte: the new device has both tables, each where it is kept; nothing else is written to it.
func TestReplaceByteByByte(t *testing.T) {
	for side := range Sides {
		for n := range 4 {
			p, _, _ := made(t)
			mine, others := []int{1, 1, 8}[:n], []int{7, 0, 7}[:3-n]
			moves(t, p, side, mine...)
			moves(t, p, 1-side, others...)
			old, other, d := p.Device(side), p.Device(1-side), filled(t, shape)
			was, stays, want := lasting(old), lasting(other), lasting(d)
			told(t, "Replace", p.Replace(side, d), api.OK)
			want[n%2], want[2+(3-n)%2] = imageOf(128, side, mine...), imageOf(128, 1-side, others...)
			lasts(t, d, want)
			lasts(t, other, stays)
			lasts(t, old, was)
			counted(t, d, 16+2, 1+2)
			counted(t, other, 2+3+2, 2+3+2)
			counted(t, old, 2+3, 2+3)
			if p.Device(side) != d || p.Device(1-side) != other || !p.Alive(side) {
				t.Error("the devices")
			}
			tableIs(t, p, side, mine...)
			tableIs(t, p, 1-side, others...)
		}
	}
}

// TestReplaceWithTheOtherDeviceGone: the new one has both tables by itself.
func TestReplaceWithTheOtherDeviceGone(t *testing.T) {
	for side := range Sides {
		p, _, _ := made(t)
		moves(t, p, side, 3)
		moves(t, p, 1-side, 5, 6)
		p.Device(0).Kill()
		p.Device(1).Kill()
		d := [Sides]*dev.Device{p.Device(0), p.Device(1)}
		d[side] = device(t, shape)
		told(t, "Replace", p.Replace(side, d[side]), api.OK)
		for _, q := range []*Pair{p, opens(t, d[0], d[1], spares)} {
			tableIs(t, q, side, 3)
			tableIs(t, q, 1-side, 5, 6)
			if !q.Alive(side) || q.Alive(1-side) {
				t.Errorf("%v, %v", q.Alive(0), q.Alive(1))
			}
		}
		writes(t, p, side, 3, page("w"))
		told(t, "Flush", p.Flush(side), api.OK)
		if d[side].Media(4+blocks) != page("w") {
			t.Error("the block isn't at its spare on the new device")
		}
	}
}

func TestReplaceWhereATableIsNotKept(t *testing.T) {
	for side := range Sides {
		for _, slot := range []int{0, 2} {
			p, _, _ := made(t)
			p.Device(1 - side).Kill()
			old, d := p.Device(side), device(t, shape)
			d.Stick(slot)
			told(t, "Replace", p.Replace(side, d), api.ErrLost)
			if p.Device(side) != old || !p.Alive(side) {
				t.Error("the old device doesn't stand there any more")
			}
			writes(t, p, side, 1, page("w"))
			reads(t, p, side, 1, page("w"))
		}
		p, _, _ := made(t)
		old, d := p.Device(side), device(t, shape)
		p.Device(1 - side).Kill()
		d.Kill()
		told(t, "Replace by a gone one", p.Replace(side, d), api.ErrLost)
		if p.Device(side) != old {
			t.Error("the old device doesn't stand there any more")
		}
	}
}

// TestReplaceByDevicesWithFaults: one that is gone, or has bad slots, may stand there, as the other one keeps the tables.
func TestReplaceByDevicesWithFaults(t *testing.T) {
	for side := range Sides {
		p, _, _ := made(t)
		d := device(t, shape)
		d.Kill()
		told(t, "Replace by a gone one", p.Replace(side, d), api.OK)
		if p.Device(side) != d || p.Alive(side) {
			t.Error("the new device")
		}
		d = device(t, shape)
		d.Stick(0)
		d.Stick(2)
		told(t, "Replace by one with bad slots", p.Replace(side, d), api.OK)
		moves(t, p, 0, 4)
		moves(t, p, 1, 5)
		q := opens(t, p.Device(0), p.Device(1), spares)
		tableIs(t, q, 0, 4)
		tableIs(t, q, 1, 5)
	}
}

func TestReplaceAsThePowerFails(t *testing.T) {
	for side := range Sides {
		for _, fused := range []int{0, 1} {
			for n := 1; n <= 5; n++ {
				p, _, _ := made(t)
				moves(t, p, side, 3)
				moves(t, p, 1-side, 5, 6)
				d := [Sides]*dev.Device{p.Device(0), p.Device(1)}
				old := d[side]
				d[side] = device(t, shape)
				d[fused].Fuse(n)
				e := p.Replace(side, d[side])
				if n == 5 {
					told(t, "Replace ahead of the fuse", e, api.OK)
					continue
				}
				told(t, "Replace", e, api.ErrPower)
				d[0].Crash(nil)
				d[1].Crash(nil)
				for _, q := range []*Pair{opens(t, d[0], d[1], spares), p} {
					tableIs(t, q, side, 3)
					tableIs(t, q, 1-side, 5, 6)
				}
				if p.Device(side) != old {
					t.Error("the old device doesn't stand there any more")
				}
				told(t, "Replace, again", p.Replace(side, d[side]), api.OK)
			}
		}
	}
}

// TestReplacedAgainAndAgain: the tables go from device to device.
func TestReplacedAgainAndAgain(t *testing.T) {
	p, _, _ := made(t)
	moves(t, p, 0, 1)
	moves(t, p, 1, 2, 2)
	for k := range 6 {
		p.Device(k % 2).Kill()
		told(t, "Replace", p.Replace(k%2, device(t, shape)), api.OK)
		q := opens(t, p.Device(0), p.Device(1), spares)
		tableIs(t, q, 0, 1)
		tableIs(t, q, 1, 2, 2)
	}
	moves(t, p, 0, 8)
	tableIs(t, opens(t, p.Device(0), p.Device(1), spares), 0, 1, 8)
}

// The rules that hold everywhere.

// TestPairsThatWereMadeApart: P2.
func TestPairsThatWereMadeApart(t *testing.T) {
	p, a, b := made(t)
	q, c, d := made(t)
	first, second := lasting(c), lasting(d)
	moves(t, p, 0, 1, 2)
	writes(t, p, 1, 3, page("w"))
	told(t, "Replace", p.Replace(1, device(t, shape)), api.OK)
	tableIs(t, q, 0)
	reads(t, q, 1, 3, page("\x00"))
	lasts(t, c, first)
	lasts(t, d, second)
	if q.Device(0) != c || q.Device(1) != d || p.Device(0) != a || p.Device(1) == b {
		t.Error("the devices")
	}
}

// TestTablesThatWereHandedOut: they stay as they were, and moving one on moves no block of the pair.
func TestTablesThatWereHandedOut(t *testing.T) {
	p, _, _ := made(t)
	moves(t, p, 0, 1)
	x := p.Table(0)
	y, e := x.Move(2)
	told(t, "the table's Move", e, api.OK)
	tableIs(t, p, 0, 1)
	moves(t, p, 0, 3)
	if z, _ := table.Parse(textOf(1, 1), blocks, spares); x != z || !slices.Equal(y.Moved(), []int{1, 2}) {
		t.Errorf("%q, %q", x.Text(), y.Text())
	}
}

// TestAZeroPair: it has no devices, so none of its calls finds anything; none panics.
func TestAZeroPair(t *testing.T) {
	p := new(Pair)
	if p.Device(0) != nil || p.Alive(1) || p.Table(0) != (table.Table{}) {
		t.Error("it has something")
	}
	refusesBlock(t, p, 0, 0, api.ErrRange)
	told(t, "Flush", p.Flush(1), api.ErrNil)
	told(t, "Replace", p.Replace(1, device(t, shape)), api.ErrArg)
}
