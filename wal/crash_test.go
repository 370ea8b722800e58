package wal

import (
	"slices"
	"testing"

	"treenail/api"
	"treenail/dev"
	"treenail/rec"
	"treenail/remap"
)

// fateLists: what becomes of the first writes of a cache, and again of those behind them.
func fateLists() [][]dev.Fate {
	each := []dev.Fate{dev.Drop, dev.Keep, dev.Tear + 27}
	var lists [][]dev.Fate
	for _, x := range each {
		for _, y := range each {
			for _, z := range each {
				lists = append(lists, slices.Repeat([]dev.Fate{x, y, z}, 4))
			}
		}
	}
	for _, bytes := range []int{1, 23, 24, 38, 60, 100, 127} {
		torn := dev.Tear + dev.Fate(bytes)
		lists = append(lists, slices.Repeat([]dev.Fate{torn}, 12), slices.Repeat([]dev.Fate{torn, dev.Keep}, 6))
	}
	return lists
}

// journal is a log, with what was told of it, so that what Open tells can be held against that.
type journal struct {
	*world
	r        Ring
	l        *Log
	seq      uint64 // where the log counts from
	chain    uint32
	appended []rec.Record // those whose Append was OK
	synced   int          // how many of them were there at the last Sync
	under    []rec.Record // that of the Append under way
	named    int          // how many updates were made: no two are the same
	faults   bool         // one side's writes may be lost or stray, those of an Open, too
}

func begun(t *testing.T, w *world, r Ring) *journal {
	t.Helper()
	j := &journal{world: w, r: r, seq: from, chain: chain}
	j.l = opens(t, w.m, r, from, chain, nil)
	return j
}

// A step is one call.
type step func(j *journal) api.Errno

// more: an Append of updates of just so many bytes, of which one was never there before.
func more(bytes int) step {
	return func(j *journal) api.Errno {
		j.named++
		last := add("j", uint64(j.named))
		u := append(filled(bytes-len(updateBytes(last))), last)
		seq, link := behind(j.seq, j.chain, j.appended)
		j.under = chained(seq, link, u)
		e := j.l.Append(u...)
		if e == api.OK {
			j.appended = append(j.appended, j.under...)
		}
		return e
	}
}

func syncs(j *journal) api.Errno {
	e := j.l.Sync()
	if e == api.OK {
		j.synced = len(j.appended)
	}
	return e
}

func isCut(j *journal) api.Errno {
	seq, link, e := j.l.Cut()
	if e == api.OK {
		j.seq, j.chain, j.appended, j.synced = seq, link, nil, 0
	}
	return e
}

// steps: round the ring of most tests more than twice, with Syncs and Cuts between; the log is full once.
func steps() []step {
	return []step{more(20), more(90), syncs, more(40), more(41), syncs, more(30), more(20), syncs, isCut, more(20), more(50), syncs, more(90), isCut, isCut, more(17), more(88), more(60), syncs, more(90), more(20)}
}

// goes through the steps up to the one in which the power fails; false, if it fails in none.
func (j *journal) goes(t *testing.T, list []step) bool {
	t.Helper()
	for k, s := range list {
		j.under = nil
		switch e := s(j); e {
		case api.OK:
		case api.ErrPower:
			return true
		case api.ErrFull:
			if len(j.appended) != j.r.Count {
				t.Fatalf("the step %d: ErrFull with %d records", k, len(j.appended))
			}
		default:
			t.Fatalf("the step %d: %v", k, e)
		}
	}
	j.under = nil
	return false
}

// there: the records that are told by what reads past the mirror.
func (j *journal) there() []rec.Record {
	var list []rec.Record
	for len(list) < j.r.Count {
		seq, link := behind(j.seq, j.chain, list)
		copies := j.copies(blockOf(j.r, seq))
		k := slices.IndexFunc(copies[:], func(image string) bool {
			x, ok := recordIn(j.size(), j.r, image)
			return ok && x.Seq == seq && x.Chain == link
		})
		if k < 0 {
			break
		}
		x, _ := recordIn(j.size(), j.r, copies[k])
		list = append(list, x)
	}
	return list
}

// recordIn: the record whose image that is; false, if it is no record's.
func recordIn(size int, r Ring, image string) (rec.Record, bool) {
	if len(image) != size || 24+int(image[6])+int(image[7])<<8 > size {
		return rec.Record{}, false
	}
	x, e := rec.Open(image[24 : 24+int(image[6])+int(image[7])<<8])
	if e != api.OK || image != imageOf(size, r, x) {
		return rec.Record{}, false
	}
	return x, true
}

// crashes: the power of both devices fails, with those fates; the pair is opened anew.
func (j *journal) crashes(t *testing.T, spares int, fates, others []dev.Fate) {
	t.Helper()
	j.d[0].Crash(fates)
	j.d[1].Crash(others)
	j.again(t, spares)
}

// damages one copy of each record that was synced, as long as the other one is whole.
func (j *journal) damages(sides int) {
	for k, x := range j.appended[:j.synced] {
		side, block := sides>>k&1, blockOf(j.r, x.Seq)
		if j.copies(block)[1-side] == imageOf(j.size(), j.r, x) {
			j.d[side].Garble(j.sector(side, block), 11*k+sides, 0x81)
		}
	}
}

// may: may so many records be there? A beginning of those that were appended, with all that were synced; or that of the call under way behind them.
func (j *journal) may(t *testing.T, list []rec.Record) {
	t.Helper()
	all := append(slices.Clone(j.appended), j.under...)
	if len(list) < j.synced || len(list) > len(all) || !slices.EqualFunc(list, all[:len(list)], sameRecord) {
		t.Fatalf("there is %v; appended were %v, %d of them synced, under way is %v", list, j.appended, j.synced, j.under)
	}
}

// holds: behind the crash Open tells what may be there; that is healed then, as far as it can be.
func (j *journal) holds(t *testing.T) {
	t.Helper()
	list := j.there()
	j.may(t, list)
	j.l = opens(t, j.m, j.r, j.seq, j.chain, list)
	if !j.faults && !j.m.Degraded() && len(j.m.Bad()) == 0 {
		j.hasAll(t, j.r, list)
	}
	j.appended, j.synced, j.under = list, len(list), nil
}

// goesOn: the log that was opened is cut, and takes other records, which are there behind another crash, too.
func (j *journal) goesOn(t *testing.T, spares int) {
	t.Helper()
	told(t, "Cut", isCut(j), api.OK)
	if l := j.there(); len(l) != 0 {
		t.Fatalf("behind the Cut there is %v", l)
	}
	j.goes(t, []step{more(33), more(90)})
	if l := j.there(); len(l) != 2 {
		t.Fatalf("behind the Cut there is %v", l)
	}
	j.goes(t, []step{syncs, more(60)})
	j.crashes(t, spares, nil, []dev.Fate{dev.Tear + 50})
	j.damages(2)
	j.holds(t)
}

// A place is where the crashes are tried.
type place struct {
	name   string
	spares int
	begin  func(w *world)
}

func places() []place {
	return []place{
		{"without faults", spares, func(*world) {}},
		{"bad sectors and spares", spares, func(w *world) {
			w.d[0].Stick(slots + 3)
			w.d[0].Stick(slots + 5)
			w.d[1].Stick(slots + 3)
			w.d[1].Stick(slots + 7)
		}},
		{"bad sectors and no spares", 0, func(w *world) {
			w.d[0].Stick(slots + 4)
			w.d[1].Stick(slots + 6)
		}},
		{"the side 0 is gone", spares, func(w *world) { w.d[0].Kill() }},
		{"the side 1 is gone", spares, func(w *world) { w.d[1].Kill() }},
	}
}

// laid: the journal in a place, which has an elder one's records in its ring.
func (p place) laid(t *testing.T) *journal {
	t.Helper()
	w := made(t, shape, p.spares)
	w.laysAll(t, ring, chained(from-5, 7, someLists(5)...))
	p.begin(w)
	return begun(t, w, ring)
}

// P13.4

// TestWhereverThePowerFails: at each write and each flush of each device, in Append and Sync, with writes dropped, kept and torn.
func TestWhereverThePowerFails(t *testing.T) {
	lists := fateLists()
	tellings := map[int]int{}
	for _, p := range places() {
		for side := range remap.Sides {
			for n, struck := 1, true; struck; n++ {
				for k, fates := range lists {
					j := p.laid(t)
					j.d[side].Fuse(n)
					if struck = j.goes(t, steps()); !struck {
						break
					}
					j.crashes(t, p.spares, fates, lists[(7*k+5)%len(lists)])
					j.damages(n + k)
					synced := j.synced
					j.holds(t)
					tellings[len(j.appended)-synced]++
					j.goesOn(t, p.spares)
				}
			}
		}
	}
	for more := range 3 { // behind those that were synced
		if tellings[more] < 100 {
			t.Errorf("only %d times there were %d records behind those that were synced", tellings[more], more)
		}
	}
}

// TestThePowerFailsBetweenTheCalls: behind each one, with both devices' power.
func TestThePowerFailsBetweenTheCalls(t *testing.T) {
	lists := fateLists()
	for _, p := range places() {
		for n := range len(steps()) + 1 {
			for k, fates := range lists {
				j := p.laid(t)
				j.goes(t, steps()[:n])
				j.crashes(t, p.spares, fates, lists[(5*k+3)%len(lists)])
				j.damages(n + k)
				j.holds(t)
				j.goesOn(t, p.spares)
			}
		}
	}
}

// TestWhereverThePowerFailsInAnOpenBehindACrash: what was there is there still, however often.
func TestWhereverThePowerFailsInAnOpenBehindACrash(t *testing.T) {
	lists, struck := fateLists(), 0
	for _, p := range places() {
		for first := 2; first < 18; first += 3 {
			for side := range remap.Sides {
				for n := 1; n < 10; n++ {
					for k := range lists {
						j := p.laid(t)
						j.d[first%2].Fuse(first)
						j.goes(t, steps())
						j.crashes(t, p.spares, lists[k], lists[(7*k+5)%len(lists)])
						j.damages(first + n)
						list := j.there()
						j.may(t, list)
						j.d[side].Fuse(n)
						l, told, e := Open(j.m, j.r, j.seq, j.chain)
						if e == api.OK {
							break
						}
						struck++
						if l != nil || len(told) != 0 || e != api.ErrPower {
							t.Fatalf("Open: %v, %v, %v", l, told, e)
						}
						j.crashes(t, p.spares, lists[(3*k+1)%len(lists)], lists[(11*k+2)%len(lists)])
						j.appended, j.synced, j.under = list, len(list), nil
						j.holds(t)
						j.goesOn(t, p.spares)
					}
				}
			}
		}
	}
	if struck < 500 {
		t.Errorf("only %d fuses struck", struck)
	}
}

// TestACutThatNobodyKnowsOf: the power fails behind a Cut, ahead of any Append: by where the log counted from ahead of the Cut all is there still.
func TestACutThatNobodyKnowsOf(t *testing.T) {
	for _, p := range places() {
		j := p.laid(t)
		j.goes(t, []step{more(20), more(90), syncs})
		list := slices.Clone(j.appended)
		told(t, "Cut", isCut(j), api.OK)
		j.crashes(t, p.spares, nil, nil)
		opens(t, j.m, ring, from, chain, list)
		opens(t, j.m, ring, j.seq, j.chain, nil)
	}
}

// TestNoRecordBehindAMissingOne: those behind a record that was dropped on both sides are there on both, and aren't told.
func TestNoRecordBehindAMissingOne(t *testing.T) {
	for missing := range 5 {
		w := usual(t)
		l := opens(t, w.m, ring, from, chain, nil)
		appends(t, l, someLists(5)...)
		fates := slices.Repeat([]dev.Fate{dev.Keep}, 5)
		fates[missing] = dev.Drop
		w.d[0].Crash(fates)
		w.d[1].Crash(fates)
		w.again(t, spares)
		all := chained(from, chain, someLists(5)...)
		opens(t, w.m, ring, from, chain, all[:missing])
		w.hasAll(t, ring, all[missing+1:])
	}
}

// dice tells numbers that differ from walk to walk, and are the same in each run.
type dice uint32

func (n *dice) upTo(most int) int {
	*n = *n*1664525 + 1013904223
	return int(uint32(*n)>>8) % most
}

func (n *dice) fates(size int) []dev.Fate {
	var list []dev.Fate
	for range n.upTo(10) {
		list = append(list, []dev.Fate{dev.Drop, dev.Keep, dev.Tear + dev.Fate(n.upTo(size))}[n.upTo(3)])
	}
	return list
}

// faulty: one side's copies are damaged in any way, now and then; the other side's power may fail, and nothing else.
func (j *journal) faulty(n *dice, side int) {
	d, i := j.d[side], j.sector(side, j.r.First+n.upTo(j.r.Count))
	switch n.upTo(8) {
	case 0:
		d.Lose(1 + n.upTo(3))
	case 1:
		d.Stray(1+n.upTo(3), i)
	case 2:
		if n.upTo(4) == 0 {
			d.Stick(i)
		}
	case 3:
		if n.upTo(40) == 0 {
			d.Kill()
		}
	default:
		d.Garble(i, n.upTo(j.size()), byte(n.upTo(256)))
	}
}

// opensAtLast: the power may fail in Open, too, and again. What wasn't synced may be on the faulty side alone, and be lost there meanwhile.
func (j *journal) opensAtLast(t *testing.T, n *dice, spares int) {
	t.Helper()
	for range 3 {
		j.crashes(t, spares, n.fates(j.size()), n.fates(j.size()))
		list := j.there()
		j.may(t, list)
		j.d[n.upTo(2)].Fuse(n.upTo(6))
		if _, _, e := Open(j.m, j.r, j.seq, j.chain); e != api.OK && e != api.ErrPower {
			t.Fatalf("Open: %v", e)
		}
		j.appended, j.under = list, nil
	}
	j.crashes(t, spares, n.fates(j.size()), n.fates(j.size()))
	j.holds(t)
}

// TestLongWalksWithAFaultySide: whatever becomes of one side's copies, the other one's are enough, wherever the power fails.
func TestLongWalksWithAFaultySide(t *testing.T) {
	opened := 0
	for seed := range 300 {
		n := dice(seed * 7919)
		r := Ring{n.upTo(4), 2 + n.upTo(12)}
		spares := n.upTo(4)
		j := begun(t, made(t, shape, spares), r)
		j.faults = true
		side := n.upTo(2)
		for range 200 {
			if n.upTo(3) == 0 {
				j.faulty(&n, side)
			}
			if n.upTo(12) == 0 {
				j.d[n.upTo(2)].Fuse(1 + n.upTo(5))
			}
			s := more(16 + n.upTo(75))
			if n.upTo(4) == 0 {
				s = syncs
			} else if n.upTo(9) == 0 || j.l.Left() == 0 {
				s = isCut
			}
			if j.goes(t, []step{s}) {
				j.opensAtLast(t, &n, spares)
				told(t, "Cut", isCut(j), api.OK)
				opened++
			}
		}
	}
	if opened < 1000 {
		t.Errorf("only %d crashes", opened)
	}
}
