package mirror

import (
	"slices"
	"strings"
	"testing"

	"treenail/api"
	"treenail/dev"
	"treenail/env"
	"treenail/remap"
)

// The block that most tests damage, and what is written to it.
const (
	block   = 4
	gen     = 7
	payload = "the payload\x00 of the block 4"
)

func written() string { return sealed(128, 5, block, gen, payload) }

func elder() string { return sealed(128, 4, block, gen-1, "an elder one") }

// A damage is what becomes of a side's copy, that was whole.
type damage struct {
	name        string
	does        func(w *world, side int)
	whole, gone bool
	reads       bool
}

// garbles: the byte of the image at that place is another one.
func garbles(name string, at int) damage {
	return damage{name: "garbled: " + name, reads: true, does: func(w *world, side int) { w.d[side].Garble(slots+block, at, 1<<(at%8)) }}
}

// isAnother: the copy is that text.
func isAnother(name, text string) damage {
	return damage{name: name, reads: true, does: func(w *world, side int) { w.d[side].Write(slots+block, text) }}
}

// toldAsDone: the copy is an elder one, as the write of the newer one was done otherwise than told.
func toldAsDone(name string, fault func(d *dev.Device)) damage {
	return damage{name: name, reads: true, does: func(w *world, side int) {
		w.d[side].Write(slots+block, elder())
		w.d[side].Flush()
		fault(w.d[side])
		w.d[side].Write(slots+block, written())
	}}
}

func damages() []damage {
	return []damage{
		{name: "whole", whole: true, reads: true, does: func(*world, int) {}},
		garbles("the mark", 0), garbles("the mark's end", 3), garbles("the Kind", 4), garbles("the nought", 5), garbles("the length", 6), garbles("the length's end", 7),
		garbles("the Addr", 8), garbles("the Addr's end", 11), garbles("the Gen", 12), garbles("the Gen's end", 19), garbles("the check", 20), garbles("the check's end", 23),
		garbles("the payload", 24), garbles("the payload's end", 24+len(payload)-1), garbles("the noughts", 24+len(payload)), garbles("the end", 127),
		isAnother("another Addr", sealed(128, 5, block+1, gen, payload)), isAnother("another Gen", sealed(128, 5, block, gen+1, payload)), isAnother("another Kind", sealed(128, 4, block, gen, payload)),
		isAnother("another payload", sealed(128, 5, block, gen, payload+".")), isAnother("noughts", page("\x00")), isAnother("no image", page("z")),
		toldAsDone("lost", func(d *dev.Device) { d.Lose(1) }), toldAsDone("written elsewhere", func(d *dev.Device) { d.Stray(1, slots+block+2) }),
		{name: "on a bad sector", does: func(w *world, side int) { w.d[side].Stick(slots + block) }},
		{name: "gone", gone: true, does: func(w *world, side int) { w.d[side].Kill() }},
	}
}

// damaged: a world of whose block both copies were whole, and that was done to them then.
func damaged(t *testing.T, spares int, both [2]damage) *world {
	t.Helper()
	w := made(t, spares)
	writes(t, w.m, block, written())
	told(t, "Flush", w.m.Flush(), api.OK)
	for side, x := range both {
		x.does(w, side)
	}
	return w
}

// A hope is what is expected of a world with two damages.
type hope struct {
	*world
	both    [2]damage
	spares  int
	repairs int
	copies  [2]string
	bad     []Place
	moved   [2][]int
	before  [2][]string
}

func hopes(t *testing.T, spares int, both [2]damage) *hope {
	t.Helper()
	w := damaged(t, spares, both)
	return &hope{world: w, both: both, spares: spares, copies: w.copies(block), before: w.sectors()}
}

// toRepair: the side's copy is repaired with an image, as far as that can be; 1, if it is.
func (h *hope) toRepair(side int, image string) int {
	switch x := h.both[side]; {
	case x.gone:
		return 0
	case !x.reads && h.spares == 0:
		h.bad = append(h.bad, Place{side, block})
		return 0
	case !x.reads:
		h.moved[side] = []int{block}
	}
	h.copies[side] = image
	h.repairs++
	return 1
}

// holds: all is as it was hoped, on both devices, too.
func (h *hope) holds(t *testing.T) {
	t.Helper()
	h.has(t, block, h.copies)
	h.tells(t, h.repairs, h.both[0].gone || h.both[1].gone, h.bad...)
	h.world.moved(t, h.moved[0], h.moved[1])
	for side, all := range h.sectors() {
		for i, s := range all[slots:] {
			if i != block && slots+i != h.sector(side, block) && s != h.before[side][slots+i] {
				t.Errorf("the sector %d of the side %d has %q, not %q", slots+i, side, s, h.before[side][slots+i])
			}
		}
	}
}

// eachPair: each two damages, with spares and without.
func eachPair(t *testing.T, does func(t *testing.T, h *hope)) {
	t.Helper()
	for _, first := range damages() {
		for _, second := range damages() {
			for _, spares := range []int{0, spares} {
				t.Run(first.name+", "+second.name, func(t *testing.T) { does(t, hopes(t, spares, [2]damage{first, second})) })
			}
		}
	}
}

// P8.2

// lost: what Read and Check tell where no copy is whole.
func (h *hope) lost() api.Errno {
	if h.both[0].gone && h.both[1].gone {
		return api.ErrLost
	}
	return api.ErrCorrupt
}

// reads: Read tells the payload; or the error, and nothing beside it.
func (h *hope) reads(t *testing.T, want api.Errno) {
	t.Helper()
	k, s, e := h.m.Read(known(written()))
	if e != want || e == api.OK && (k != env.Node || s != payload) || e != api.OK && (k != 0 || s != "") {
		t.Errorf("Read: %d, %q, %v, not %v", k, s, e, want)
	}
}

func TestReadOfEachTwoCopies(t *testing.T) {
	eachPair(t, func(t *testing.T, h *hope) {
		want := api.OK
		switch {
		case h.both[0].whole:
		case h.both[1].whole:
			h.toRepair(0, written())
		default:
			want = h.lost()
		}
		h.reads(t, want)
		h.holds(t)
		if want == api.OK && !h.both[0].whole && len(h.bad) > 0 { // it is tried again, and told no other thing
			h.reads(t, want)
			h.holds(t)
		}
	})
}

// TestReadOfAWholeCopyAlone: the side 1 isn't even read, if the side 0's copy is whole; and nothing is written.
func TestReadOfAWholeCopyAlone(t *testing.T) {
	w := made(t, spares)
	writes(t, w.m, block, written())
	done := w.done()
	first, _, _ := w.d[0].Count()
	second, _, _ := w.d[1].Count()
	for range 5 {
		if k, s, e := w.m.Read(known(written())); k != env.Node || s != payload || e != api.OK {
			t.Errorf("%d, %q, %v", k, s, e)
		}
	}
	if n, _, _ := w.d[0].Count(); n != first+5 {
		t.Errorf("%d reads of the side 0, not 5", n-first)
	}
	if n, _, _ := w.d[1].Count(); n != second {
		t.Errorf("%d reads of the side 1", n-second)
	}
	if w.done() != done {
		t.Error("Read wrote")
	}
}

// TestReadOfEachKind: and of payloads of no byte, and of as many as there is room for.
func TestReadOfEachKind(t *testing.T) {
	w := made(t, spares)
	for _, kind := range []env.Kind{env.Super, env.Table, env.Log, env.Leaf, env.Node} {
		for _, text := range []string{"", "a", strings.Repeat("\xff", 104), strings.Repeat("\x00", 104)} {
			for _, gen := range []uint64{0, 1, 1<<64 - 1} {
				image := sealed(128, byte(kind), 3, gen, text)
				writes(t, w.m, 3, image)
				for range 2 {
					if k, s, e := w.m.Read(known(image)); k != kind || s != text || e != api.OK {
						t.Errorf("%d, %q, %v, not %d, %q", k, s, e, kind, text)
					}
					w.d[0].Garble(slots+3, 30, 1)
				}
			}
		}
	}
}

// TestReadOfWhatIsNotKnown: an image that differs from what is known in one thing isn't whole, though both copies are alike.
func TestReadOfWhatIsNotKnown(t *testing.T) {
	w := made(t, spares)
	for x := range blocks {
		writes(t, w.m, x, sealed(128, 5, x, gen, payload))
	}
	before, done := w.sectors(), w.done()
	want := known(written())
	for _, p := range []env.Ptr{{Addr: block + 1, Gen: want.Gen, Sum: want.Sum}, {Addr: block, Gen: want.Gen + 1, Sum: want.Sum}, {Addr: block, Gen: want.Gen - 1, Sum: want.Sum}, {Addr: block, Gen: 1<<32 + want.Gen, Sum: want.Sum}, {Addr: block, Gen: want.Gen, Sum: want.Sum ^ 1}, {Addr: block}} {
		if k, s, e := w.m.Read(p); k != 0 || s != "" || e != api.ErrCorrupt {
			t.Errorf("Read(%v): %d, %q, %v", p, k, s, e)
		}
		if n, e := w.m.Check(p); n != 0 || e != api.ErrCorrupt {
			t.Errorf("Check(%v): %d, %v", p, n, e)
		}
		if l, e := w.m.Whole(p); l != [2]bool{} || e != api.OK {
			t.Errorf("Whole(%v): %v, %v", p, l, e)
		}
	}
	w.stays(t, before)
	w.tells(t, 0, false)
	if w.done() != done {
		t.Error("something was written")
	}
}

// TestReadWithoutSpares: as long as there are spares a copy on a bad sector is repaired; without them the place is told as bad, and the payload still.
func TestReadWithoutSpares(t *testing.T) {
	w := made(t, 2)
	image := func(x int) string { return sealed(128, 4, x, 9, "leaf") }
	for x := range 5 {
		writes(t, w.m, x, image(x))
		w.d[0].Stick(slots + x)
	}
	var bad []Place
	for n, x := range []int{4, 1, 3, 0, 2} {
		for range 2 {
			if k, s, e := w.m.Read(known(image(x))); k != env.Leaf || s != "leaf" || e != api.OK {
				t.Errorf("%d, %q, %v", k, s, e)
			}
		}
		if n < 2 {
			w.has(t, x, [2]string{image(x), image(x)})
			w.tells(t, n+1, false)
			continue
		}
		bad = append(bad, Place{0, x})
		slices.SortFunc(bad, func(a, b Place) int { return a.Block - b.Block })
		w.has(t, x, [2]string{"", image(x)})
		w.tells(t, 2, false, bad...)
	}
	w.moved(t, []int{1, 4}, nil)
}

// TestARepairWhereTheTableIsNotKept: its Write is ErrLost, so it doesn't count, and the place isn't bad; the payload is told still.
func TestARepairWhereTheTableIsNotKept(t *testing.T) {
	for side := range remap.Sides {
		w := made(t, spares)
		writes(t, w.m, block, written())
		slotsBad(w)
		w.d[side].Stick(slots + block)
		if k, s, e := w.m.Read(known(written())); k != env.Node || s != payload || e != api.OK {
			t.Errorf("%d, %q, %v", k, s, e)
		}
		for _, call := range []func() (int, api.Errno){
			func() (int, api.Errno) { return w.m.Check(known(written())) },
			func() (int, api.Errno) { return w.m.Heal(block, written()) },
		} {
			if n, e := call(); n != 0 || e != api.OK {
				t.Errorf("%d, %v", n, e)
			}
		}
		w.tells(t, 0, false)
		if w.copy(1-side, block) != written() {
			t.Errorf("%q", w.copy(1-side, block))
		}
	}
}

// P8.5

// TestOneCopyIsDamaged: in whatever way, Read answers what was written, and behind a Check both copies are whole, if there are spares; of the side 0's damages behind the Read alone.
func TestOneCopyIsDamaged(t *testing.T) {
	whole := damages()[0]
	for _, x := range damages() {
		for side := range remap.Sides {
			both := [2]damage{whole, whole}
			both[side] = x
			w := damaged(t, spares, both)
			if k, s, e := w.m.Read(known(written())); k != env.Node || s != payload || e != api.OK {
				t.Errorf("%s on the side %d: %d, %q, %v", x.name, side, k, s, e)
			}
			want := [2]bool{true, true}
			want[side] = !x.gone && (x.whole || side == 0)
			if l, e := w.m.Whole(known(written())); l != want || e != api.OK {
				t.Errorf("%s on the side %d: %v, %v", x.name, side, l, e)
			}
			if _, e := w.m.Check(known(written())); e != api.OK {
				t.Errorf("%s on the side %d: %v", x.name, side, e)
			}
			want[side] = !x.gone
			if l, e := w.m.Whole(known(written())); l != want || e != api.OK {
				t.Errorf("%s on the side %d, behind Check: %v, %v", x.name, side, l, e)
			}
		}
	}
}

// TestEachBitOfACopy: the first Read repairs it, if it is the side 0's; the next ones repair nothing.
func TestEachBitOfACopy(t *testing.T) {
	w := made(t, spares)
	writes(t, w.m, block, written())
	for bit := range 8 * 128 {
		w.d[0].Garble(slots+block, bit/8, 1<<(bit%8))
		for range 2 {
			if k, s, e := w.m.Read(known(written())); k != env.Node || s != payload || e != api.OK {
				t.Fatalf("the bit %d: %d, %q, %v", bit, k, s, e)
			}
		}
		w.has(t, block, [2]string{written(), written()})
		w.tells(t, bit+1, false)
	}
}

// TestARepairIsNotFlushed: it is a write like others.
func TestARepairIsNotFlushed(t *testing.T) {
	w := made(t, spares)
	writes(t, w.m, block, written())
	told(t, "Flush", w.m.Flush(), api.OK)
	w.d[0].Garble(slots+block, 50, 4)
	done := w.done()
	w.m.Read(known(written()))
	done[0][0]++
	if w.done() != done || w.d[0].Media(slots+block) == written() {
		t.Errorf("%v, not %v", w.done(), done)
	}
	told(t, "Flush", w.m.Flush(), api.OK)
	if w.d[0].Media(slots+block) != written() {
		t.Error("the repaired copy doesn't last")
	}
}

// TestWithoutFaults: whatever is written and read, nothing is repaired, moved or bad.
func TestWithoutFaults(t *testing.T) {
	w := made(t, spares)
	var latest [blocks]string
	n := dice(5)
	for k := range 4000 {
		x := n.upTo(blocks)
		switch n.upTo(6) {
		case 0, 1:
			latest[x] = sealed(128, byte(1+n.upTo(5)), x, uint64(k), strings.Repeat("p", n.upTo(105)))
			writes(t, w.m, x, latest[x])
		case 2:
			told(t, "Flush", w.m.Flush(), api.OK)
		default:
			w.isWhole(t, x, latest[x])
		}
	}
	w.tells(t, 0, false)
	w.moved(t, nil, nil)
}

// isWhole: all calls tell that both copies of a block are that image, if there is one.
func (w *world) isWhole(t *testing.T, x int, image string) {
	t.Helper()
	if image == "" {
		return
	}
	if _, s, e := w.m.Read(known(image)); s != image[24:24+len(s)] || e != api.OK {
		t.Errorf("Read: %q, %v", s, e)
	}
	if l, e := w.m.Images(x); !slices.Equal(l, []string{image, image}) || e != api.OK {
		t.Errorf("Images: %q, %v", l, e)
	}
	if l, e := w.m.Whole(known(image)); l != [2]bool{true, true} || e != api.OK {
		t.Errorf("Whole: %v, %v", l, e)
	}
	if n, e := w.m.Check(known(image)); n != 0 || e != api.OK {
		t.Errorf("Check: %d, %v", n, e)
	}
	if n, e := w.m.Heal(x, image); n != 0 || e != api.OK {
		t.Errorf("Heal: %d, %v", n, e)
	}
}
