package wal

import (
	"math"
	"slices"
	"strings"
	"testing"

	"treenail/api"
	"treenail/dev"
	"treenail/mirror"
	"treenail/rec"
	"treenail/remap"
)

// twin is a log as the chapter says it, over a pair of its own, made otherwise than the program: it has no mirror, keeps its records, counts them by its next number, and holds whole images against such as it makes by other means.
type twin struct {
	p    *remap.Pair
	d    [2]*dev.Device
	is   bool // is there a log?
	r    Ring
	next uint64
	link uint32
	list []rec.Record
}

func (w *twin) size() int { return w.d[0].Shape().Size }

// both does something of each side that isn't gone, and ends with the first ErrPower.
func (w *twin) both(does func(side int) api.Errno) ([]api.Errno, bool) {
	var told []api.Errno
	for side, d := range w.d {
		if d.Dead() {
			continue
		}
		e := does(side)
		if e == api.ErrPower {
			return nil, false
		}
		told = append(told, e)
	}
	return told, true
}

func (w *twin) open(r Ring, seq uint64, chain uint32) ([]rec.Record, api.Errno) {
	last := w.d[0].Shape().Sectors - slots - w.p.Table(0).Left() - int(w.p.Table(0).Gen())
	if r.Count <= 1 || r.Count > 256 || r.First <= -1 || r.First > last || last-r.First < r.Count {
		return nil, api.ErrArg
	}
	other := twin{p: w.p, d: w.d, is: true, r: r, next: seq, link: chain}
	for {
		done, e := other.onward()
		if e != api.OK {
			return nil, e
		}
		if done {
			*w = other
			return w.list, api.OK
		}
	}
}

// onward takes one record more; true, if there is none.
func (w *twin) onward() (bool, api.Errno) {
	if len(w.list) == w.r.Count {
		return true, api.OK
	}
	var images []string
	block := blockOf(w.r, w.next)
	if _, ok := w.both(func(side int) api.Errno {
		s, e := w.p.Read(side, block)
		if e == api.OK {
			images = append(images, s)
		}
		return e
	}); !ok {
		return false, api.ErrPower
	}
	for _, image := range images {
		if x, ok := recordIn(w.size(), w.r, image); ok && x.Seq == w.next && x.Chain == w.link {
			return false, w.takes(x, block, image)
		}
	}
	return true, api.OK
}

func (w *twin) takes(x rec.Record, block int, image string) api.Errno {
	_, ok := w.both(func(side int) api.Errno {
		if s, e := w.p.Read(side, block); e == api.ErrPower || s == image {
			return e
		}
		return w.p.Write(side, block, image)
	})
	if !ok {
		return api.ErrPower
	}
	w.adds(x)
	return api.OK
}

func (w *twin) adds(x rec.Record) {
	w.list = append(w.list, x)
	w.next++
	w.link = linkOf(x)
}

func (w *twin) append(u []rec.Update) api.Errno {
	if !w.is {
		return api.ErrNil
	}
	if len(u) == 0 {
		return api.ErrArg
	}
	for _, x := range u {
		if e := x.Check(); e != api.OK {
			return e
		}
	}
	if len(updatesBytes(u))+38 > w.size() {
		return api.ErrLong
	}
	if len(w.list) == w.r.Count {
		return api.ErrFull
	}
	x := rec.Record{Seq: w.next, Chain: w.link, Updates: slices.Clone(u)}
	errors, ok := w.both(func(side int) api.Errno { return w.p.Write(side, blockOf(w.r, x.Seq), imageOf(w.size(), w.r, x)) })
	switch {
	case !ok:
		return api.ErrPower
	case len(errors) == 0:
		return api.ErrLost
	case !slices.Contains(errors, api.OK):
		return api.ErrMedia
	}
	w.adds(x)
	return api.OK
}

func (w *twin) sync() api.Errno {
	if !w.is {
		return api.ErrNil
	}
	errors, ok := w.both(func(side int) api.Errno { return w.p.Flush(side) })
	if !ok {
		return api.ErrPower
	}
	if len(errors) == 0 {
		return api.ErrLost
	}
	return api.OK
}

func (w *twin) cut() (uint64, uint32, api.Errno) {
	if !w.is {
		return 0, 0, api.ErrNil
	}
	next := w.next + uint64(w.r.Count)
	if next < w.next {
		return 0, 0, api.ErrGen
	}
	w.next, w.list = next, nil
	return next, w.link, api.OK
}

// pairOf is the program's log and the twin.
type pairOf struct {
	world  *world
	l      *Log
	w      *twin
	spares int
	r      Ring   // the ring of most Opens
	seq    uint64 // where the log counts from
	chain  uint32
	shape  dev.Shape
}

// bothBegin: two pairs, alike; of some walks with many bad sectors from the beginning on.
func bothBegin(t *testing.T, n *dice) *pairOf {
	t.Helper()
	s := dev.Shape{Sectors: 24, Size: 128 + 64*n.upTo(2)}
	spares := n.upTo(4)
	x, y := made(t, s, spares), made(t, s, spares)
	b := &pairOf{world: x, w: &twin{p: y.p, d: y.d}, spares: spares, shape: s, seq: starts[n.upTo(len(starts))], chain: uint32(n.upTo(1 << 20))}
	b.r = Ring{n.upTo(4), 2 + n.upTo(9)}
	if n.upTo(4) == 0 {
		b.seq = math.MaxUint64 - uint64(n.upTo(60))
	}
	for range n.upTo(2) * n.upTo(8) {
		side, i := n.upTo(2), slots+n.upTo(20)
		for _, d := range b.devices(side) {
			d.Stick(i)
		}
	}
	return b
}

func (b *pairOf) devices(side int) [2]*dev.Device {
	return [2]*dev.Device{b.world.d[side], b.w.d[side]}
}

// An answer is all that a call tells.
type answer struct {
	list  []rec.Record
	seq   uint64
	chain uint32
	e     api.Errno
}

func (a answer) equal(b answer) bool {
	return slices.EqualFunc(a.list, b.list, sameRecord) && a.seq == b.seq && a.chain == b.chain && a.e == b.e
}

// updates: mostly such as may be; also none, too many, and wrong ones.
func (b *pairOf) updates(n *dice) []rec.Update {
	switch n.upTo(12) {
	case 0:
		return nil
	case 1:
		wrong := rec.Update{Kind: rec.Kind(n.upTo(5)), Key: strings.Repeat("w", n.upTo(20)), Value: strings.Repeat("v", n.upTo(2)*n.upTo(40)), Delta: uint64(n.upTo(2))}
		return slices.Concat(filled(4+n.upTo(b.shape.Size)), []rec.Update{wrong})
	case 2, 3:
		return filled(b.shape.Size - 44 + n.upTo(12))
	}
	return append(filled(4+n.upTo(60)), add("n", uint64(n.upTo(1<<20))))
}

func (b *pairOf) opensBoth(t *testing.T, r Ring, seq uint64, chain uint32) (got, want answer) {
	m, e := mirror.New(b.world.p)
	if e != api.OK {
		t.Fatal(e)
	}
	l, list, e := Open(m, r, seq, chain)
	if e == api.OK {
		b.l, b.r, b.seq, b.chain = l, r, seq, chain
	}
	got.list, got.e = list, e
	want.list, want.e = b.w.open(r, seq, chain)
	if (l == nil) != (e != api.OK) {
		t.Errorf("Open: %v, %v", l, e)
	}
	return got, want
}

// opensElsewhere: by another number or check, or of another ring.
func (b *pairOf) opensElsewhere(t *testing.T, n *dice) (got, want answer) {
	r, seq, chain := b.r, b.seq, b.chain
	switch n.upTo(5) {
	case 0:
		seq += uint64(n.upTo(7)) - 3
	case 1:
		chain ^= 1 << n.upTo(32)
	case 2:
		r.First += n.upTo(9) - 4
	case 3:
		r.Count += n.upTo(19) - 9
	case 4:
		if len(b.w.list) > 0 { // in the middle
			x := b.w.list[n.upTo(len(b.w.list))]
			seq, chain = x.Seq, x.Chain
		}
	}
	if seq > math.MaxUint64-300 && seq > b.seq {
		seq = b.seq
	}
	return b.opensBoth(t, r, seq, chain)
}

// goes does one thing to both, and tells what both answer.
func (b *pairOf) goes(t *testing.T, n *dice) (got, want answer) {
	switch n.upTo(14) {
	case 0, 1, 2, 3, 4, 5:
		if b.w.next < math.MaxUint64 { // the chapter doesn't say what is behind the last number
			u := b.updates(n)
			got.e, want.e = b.l.Append(u...), b.w.append(u)
		}
	case 6:
		got.e, want.e = b.l.Sync(), b.w.sync()
	case 7:
		got.seq, got.chain, got.e = b.l.Cut()
		want.seq, want.chain, want.e = b.w.cut()
		if got.e == api.OK {
			b.seq, b.chain = got.seq, got.chain
		}
	case 8:
		return b.opensBoth(t, b.r, b.seq, b.chain)
	case 9:
		return b.opensElsewhere(t, n)
	case 10:
		return b.crashesBoth(t, n)
	case 11:
		b.replaces(t, n)
	default:
		b.fault(n)
	}
	return got, want
}

// crashesBoth: the pairs are opened anew then, and the logs, too, as the elder ones' pairs don't count any more.
func (b *pairOf) crashesBoth(t *testing.T, n *dice) (got, want answer) {
	for side := range 2 {
		fates := n.fates(b.shape.Size)
		for _, d := range b.devices(side) {
			d.Crash(fates)
		}
	}
	p, e := remap.Open(b.world.d[0], b.world.d[1], b.spares)
	q, f := remap.Open(b.w.d[0], b.w.d[1], b.spares)
	if e != f {
		t.Fatalf("the pairs: %v, %v", e, f)
	}
	if e == api.OK {
		b.world.p, b.w.p, b.w.is, b.l = p, q, false, nil
	}
	if n.upTo(3) == 0 {
		b.fault(n)
	}
	return b.opensBoth(t, b.r, b.seq, b.chain)
}

// replaces mostly such a side alone as is gone.
func (b *pairOf) replaces(t *testing.T, n *dice) {
	side := n.upTo(2)
	if !b.world.d[side].Dead() && n.upTo(6) != 0 || n.upTo(2) == 0 {
		return
	}
	d, other := device(t, b.shape), device(t, b.shape)
	e, f := b.world.p.Replace(side, d), b.w.p.Replace(side, other)
	if e != f {
		t.Fatalf("Replace: %v, %v", e, f)
	}
	if e == api.OK {
		b.world.d[side], b.w.d[side] = d, other
	}
}

func (b *pairOf) fault(n *dice) {
	kind, side, i, k, at, by := n.upTo(10), n.upTo(2), slots+n.upTo(20), n.upTo(5), n.upTo(b.shape.Size), byte(n.upTo(256))
	rarely := n.upTo(6) == 0
	for _, d := range b.devices(side) {
		switch kind {
		case 0:
			if rarely {
				d.Stick(i)
			}
		case 1, 2, 3:
			d.Garble(i, at, by)
		case 4:
			d.Lose(k)
		case 5:
			d.Stray(k, i)
		case 6:
			if rarely {
				d.Kill()
			}
		default:
			if kind == 7 || rarely {
				d.Fuse(k * 2)
			}
		}
	}
}

// alike: do both tell the same, and have the same on their devices?
func (b *pairOf) alike() string {
	next, link := b.l.Next()
	want := *b.w
	if !want.is {
		want = twin{r: Ring{}}
	}
	if next != want.next || link != want.link || b.l.Left() != want.r.Count-len(want.list) {
		return "Next or Left"
	}
	if b.w.is && b.l.Room() != b.shape.Size-38 {
		return "Room"
	}
	for side := range 2 {
		d := b.devices(side)
		_, x, f := d[0].Count()
		if _, y, g := d[1].Count(); x != y || f != g || d[0].Off() != d[1].Off() || b.world.p.Table(side) != b.w.p.Table(side) {
			return "the counts, the power, or the tables"
		}
		for i := range b.shape.Sectors {
			if d[0].Media(i) != d[1].Media(i) {
				return "what lasts"
			}
		}
	}
	return ""
}

// TestBesideATwin: in long walks through all calls and faults, all is told as the twin tells it.
func TestBesideATwin(t *testing.T) {
	answers, lengths := map[api.Errno]int{}, map[int]int{}
	for seed := range 400 {
		n := dice(seed * 7919)
		b := bothBegin(t, &n)
		for k := range 400 {
			got, want := b.goes(t, &n)
			if !got.equal(want) {
				t.Fatalf("walk %d, step %d: %v, not %v", seed, k, got, want)
			}
			if what := b.alike(); what != "" {
				t.Fatalf("walk %d, step %d: %s", seed, k, what)
			}
			answers[got.e]++
			lengths[len(got.list)]++
		}
	}
	for _, e := range []api.Errno{api.OK, api.ErrNil, api.ErrArg, api.ErrLarge, api.ErrLong, api.ErrFull, api.ErrPower, api.ErrMedia, api.ErrLost, api.ErrGen} {
		if answers[e] < 100 {
			t.Errorf("only %d answers were %v", answers[e], e)
		}
	}
	for length := 1; length < 6; length++ {
		if lengths[length] < 100 {
			t.Errorf("only %d Opens told %d records", lengths[length], length)
		}
	}
}
