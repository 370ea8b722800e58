package remap

import (
	"slices"
	"testing"

	"treenail/api"
	"treenail/dev"
	"treenail/table"
)

// world is a pair, with what was told of it, so that what lasts can be held against that.
type world struct {
	p             *Pair
	third         *dev.Device           // stands in a side's place later on
	tables        [Sides][]int          // which blocks were moved, as was told OK last
	under         [Sides][][]int        // the same, as the call under way may leave it
	waiting, safe [Sides][blocks]string // what each block has, unflushed and flushed; empty, if that isn't known
}

// A step is one call, and what is known of it if it answers OK.
type step func(w *world) api.Errno

func move(side, block int) step {
	return func(w *world) api.Errno {
		next := append(slices.Clone(w.tables[side]), block)
		w.under[side] = append(w.under[side], next)
		w.waiting[side][block], w.safe[side][block] = "", ""
		e := w.p.Move(side, block)
		if e == api.OK {
			w.tables[side] = next
		}
		return e
	}
}

func write(side, block int, image string) step {
	return func(w *world) api.Errno {
		next := slices.Clone(w.tables[side])
		for isBad(w.p.Device(side), next, block) {
			next = append(next, block)
			w.under[side] = append(w.under[side], slices.Clone(next))
		}
		w.waiting[side][block], w.safe[side][block] = "", ""
		e := w.p.Write(side, block, image)
		if e == api.OK {
			w.tables[side], w.waiting[side][block] = next, image
		}
		return e
	}
}

// isBad: is the sector of the block bad, as the table is in which these were moved?
func isBad(d *dev.Device, moved []int, block int) bool {
	place := block
	for spare, x := range moved {
		if x == block {
			place = blocks + spare
		}
	}
	_, e := d.Read(4 + place)
	return e == api.ErrMedia
}

func flush(side int) step {
	return func(w *world) api.Errno {
		e := w.p.Flush(side)
		for block, s := range w.waiting[side] {
			if e == api.OK && s != "" {
				w.safe[side][block], w.waiting[side][block] = s, ""
			}
		}
		return e
	}
}

func replace(side int) step {
	return func(w *world) api.Errno {
		e := w.p.Replace(side, w.third)
		if e == api.OK {
			w.waiting[side], w.safe[side] = [blocks]string{}, [blocks]string{}
		}
		return e
	}
}

// steps: of both sides, with sectors that are bad, as begun tells, up to the last spare of one of them.
func steps() []step {
	return []step{
		write(0, 1, page("a")), write(1, 1, page("b")), flush(0), flush(1), write(0, 2, page("c")), write(1, 0, page("d")), flush(0), move(1, 3),
		write(1, 3, page("e")), write(1, 3, page("f")), flush(1), replace(0), write(0, 1, page("g")), flush(0), move(1, 1), write(1, 1, page("h")), flush(1),
		move(0, 2), write(0, 2, page("i")), write(0, 5, page("j")), flush(0),
	}
}

// begun: a new pair, on whose devices some blocks' and spares' sectors are bad, with those slots that are handed in; of a side below 0 none is gone.
func begun(t *testing.T, slots [Sides][]int, gone int) *world {
	t.Helper()
	p, a, b := made(t)
	for _, i := range append([]int{4 + 2, 4 + 9}, slots[0]...) {
		a.Stick(i)
	}
	for _, i := range append([]int{4 + 1}, slots[1]...) {
		b.Stick(i)
	}
	if gone >= 0 {
		p.Device(gone).Kill()
	}
	return &world{p: p, third: device(t, shape)}
}

// goes through the steps up to the one in which the power fails; false, if it fails in none.
func (w *world) goes(t *testing.T, list []step) bool {
	t.Helper()
	for k, s := range list {
		w.under = [Sides][][]int{}
		switch e := s(w); e {
		case api.OK:
		case api.ErrPower:
			return true
		case api.ErrLost: // of a side that is gone: nothing is done
		default:
			t.Fatalf("the step %d: %v", k, e)
		}
	}
	w.under = [Sides][][]int{}
	return false
}

// crashes: the power of all devices fails, with those fates.
func (w *world) crashes(fates, others []dev.Fate) {
	w.p.Device(0).Crash(fates)
	w.p.Device(1).Crash(others)
	w.third.Crash(fates)
	w.waiting = [Sides][blocks]string{}
}

// holds: what lasts is what was told, or what the call under way makes of it; and each block that was flushed is found. The world goes on with the pair that is opened.
func (w *world) holds(t *testing.T) {
	t.Helper()
	w.p = opens(t, w.p.Device(0), w.p.Device(1), spares)
	for side := range Sides {
		lists := append(w.under[side], w.tables[side])
		k := slices.IndexFunc(lists, func(moved []int) bool {
			x, e := table.Parse(textOf(uint64(len(moved)), moved...), blocks, spares)
			return e == api.OK && x == w.p.Table(side)
		})
		if k < 0 {
			t.Fatalf("the side %d has the table %q; told was that of %v, under way those of %v", side, w.p.Table(side).Text(), w.tables[side], w.under[side])
		}
		w.tables[side] = lists[k]
		for block, s := range w.safe[side] {
			if s != "" && w.p.Alive(side) {
				reads(t, w.p, side, block, s)
			}
		}
	}
}

// fateLists: what becomes of the first writes of a cache, and again of those behind them.
func fateLists() [][]dev.Fate {
	each := []dev.Fate{dev.Drop, dev.Keep, dev.Tear + 27}
	var lists [][]dev.Fate
	for _, x := range each {
		for _, y := range each {
			for _, z := range each {
				lists = append(lists, slices.Repeat([]dev.Fate{x, y, z}, 4))
			}
		}
	}
	return append(lists, slices.Repeat([]dev.Fate{dev.Tear + 1}, 9), slices.Repeat([]dev.Fate{dev.Tear + 127}, 9), slices.Repeat([]dev.Fate{dev.Tear + 35, dev.Keep}, 9))
}

// fails goes through the steps with a fuse on one of the three devices, and once more behind the crash; false, if the fuse never struck.
func fails(t *testing.T, w *world, which, n int, fates, others []dev.Fate) bool {
	t.Helper()
	[]*dev.Device{w.p.Device(0), w.p.Device(1), w.third}[which].Fuse(n)
	if !w.goes(t, steps()) {
		return false
	}
	w.crashes(fates, others)
	w.holds(t)
	w.goes(t, []step{write(0, 6, page("k")), write(1, 6, page("l")), flush(0), flush(1)})
	w.holds(t)
	return true
}

// eachCrash: at each write and each flush of each device, with each list of fates.
func eachCrash(t *testing.T, slots [Sides][]int, gone int) {
	t.Helper()
	lists := fateLists()
	for which := range 3 {
		for n, struck := 1, true; struck; n++ {
			for k, fates := range lists {
				struck = fails(t, begun(t, slots, gone), which, n, fates, lists[(7*k+5)%len(lists)]) && !t.Failed()
			}
		}
	}
}

// TestWhereverThePowerFails: P7.5.
func TestWhereverThePowerFails(t *testing.T) {
	eachCrash(t, [Sides][]int{}, -1)
}

// TestWhereverThePowerFailsWithBadSlots: of each table one image at least can be read, if that was kept.
func TestWhereverThePowerFailsWithBadSlots(t *testing.T) {
	for _, slots := range [][Sides][]int{{{0, 1}, nil}, {{2, 3}, nil}, {nil, {0, 1}}, {nil, {2, 3}}, {{0, 1}, {0, 1}}, {{2, 3}, {2, 3}}, {{0, 1, 2, 3}, nil}, {nil, {0, 1, 2, 3}}, {{1}, {2}}} {
		eachCrash(t, slots, -1)
	}
}

func TestWhereverThePowerFailsWithADeviceGone(t *testing.T) {
	eachCrash(t, [Sides][]int{}, 0)
	eachCrash(t, [Sides][]int{}, 1)
}
