package mirror

import (
	"slices"
	"testing"

	"treenail/api"
	"treenail/remap"
)

// P8.4

// TestTheOrderOfBadPlaces: by sides, then blocks, in whatever order they went bad.
func TestTheOrderOfBadPlaces(t *testing.T) {
	n := dice(11)
	for range 60 {
		w := made(t, 0)
		var want []Place
		for range n.upTo(14) {
			x := Place{n.upTo(2), n.upTo(12)}
			w.d[x.Side].Stick(slots + x.Block)
			if !slices.Contains(want, x) {
				want = append(want, x)
			}
			answer := api.OK
			if slices.Contains(want, Place{1 - x.Side, x.Block}) {
				answer = api.ErrMedia
			}
			told(t, "Write", w.m.Write(x.Block, page("w")), answer)
			slices.SortFunc(want, func(a, b Place) int { return (a.Side-b.Side)*100 + a.Block - b.Block })
			w.tells(t, 0, false, want...)
		}
	}
}

// TestTheListOfBadPlacesIsTheCallers: what the caller does to it changes nothing.
func TestTheListOfBadPlacesIsTheCallers(t *testing.T) {
	w := made(t, 0)
	for _, x := range []int{3, 9} {
		w.d[1].Stick(slots + x)
		writes(t, w.m, x, page("w"))
	}
	l := w.m.Bad()
	other := w.m.Bad()
	l[0], l[1] = Place{7, 7}, Place{8, 8}
	l = append(l[:1], Place{9, 9})
	if len(l) != 2 || !slices.Equal(other, []Place{{1, 3}, {1, 9}}) {
		t.Errorf("%v", other)
	}
	w.tells(t, 0, false, Place{1, 3}, Place{1, 9})
}

// replaced: the side's device is another one, on which no block was written, and which has no bad sector.
func (w *world) replaced(t *testing.T, side int) {
	t.Helper()
	w.d[side] = device(t, shape)
	told(t, "layer 7's Replace", w.p.Replace(side, w.d[side]), api.OK)
}

// TestABadPlaceThatIsWritten: by each call that writes; until then it is bad, also on another device, and while its side is gone.
func TestABadPlaceThatIsWritten(t *testing.T) {
	for side := range remap.Sides {
		for k, call := range []func(m *Mirror) (int, api.Errno){
			func(m *Mirror) (int, api.Errno) { return 0, m.Write(block, written()) },
			func(m *Mirror) (int, api.Errno) { return m.Heal(block, written()) },
			func(m *Mirror) (int, api.Errno) { return m.Check(known(written())) },
			func(m *Mirror) (int, api.Errno) { _, s, e := m.Read(known(written())); return min(1, len(s)), e },
		} {
			w := made(t, 0)
			for _, x := range []int{block, block + 1} {
				w.d[side].Stick(slots + x)
				writes(t, w.m, x, written())
			}
			bad := []Place{{side, block}, {side, block + 1}}
			w.tells(t, 0, false, bad...)
			w.d[side].Kill()
			writes(t, w.m, block, written())
			w.tells(t, 0, true, bad...)
			w.replaced(t, side)
			w.tells(t, 0, false, bad...)
			w.d[side].Fuse(1)
			if k == 3 && side == 1 { // it doesn't ask that side
				continue
			}
			if n, e := call(w.m); n != 0 || e != api.ErrPower {
				t.Errorf("%d, %v", n, e)
			}
			w.d[side].Crash(nil)
			w.tells(t, 0, false, bad...)
			n, e := call(w.m)
			if n != min(k, 1) || e != api.OK {
				t.Errorf("the call %d: %d, %v", k, n, e)
			}
			w.tells(t, n, false, bad[1])
			w.has(t, block, [2]string{written(), written()})
		}
	}
}

// TestABadPlaceThatCannotBeWritten: it is told once, however often it is tried.
func TestABadPlaceThatCannotBeWritten(t *testing.T) {
	for side := range remap.Sides {
		w := made(t, 0)
		writes(t, w.m, block, written())
		w.d[side].Stick(slots + block)
		w.tells(t, 0, false) // nobody knows yet
		for range 3 {
			writes(t, w.m, block, written())
			if n, e := w.m.Heal(block, elder()); n != 1 || e != api.OK {
				t.Errorf("%d, %v", n, e)
			}
			if n, e := w.m.Check(known(elder())); n != 0 || e != api.OK {
				t.Errorf("%d, %v", n, e)
			}
		}
		w.tells(t, 3, false, Place{side, block})
	}
}

// TestTwoMirrors: of two pairs they have nothing to do with one another; of one pair each has its own repairs and bad places.
func TestTwoMirrors(t *testing.T) {
	w, other := made(t, 0), made(t, 0)
	m := over(t, w.p)
	writes(t, w.m, block, written())
	w.d[0].Garble(slots+block, 9, 9)
	if n, e := w.m.Check(known(written())); n != 1 || e != api.OK {
		t.Errorf("%d, %v", n, e)
	}
	w.d[1].Stick(slots + block)
	writes(t, w.m, block, written())
	w.tells(t, 1, false, Place{1, block})
	w.d[1].Kill()
	w.tells(t, 1, true, Place{1, block})
	other.tells(t, 0, false)
	other.has(t, block, [2]string{page("\x00"), page("\x00")})
	if m.Repairs() != 0 || len(m.Bad()) != 0 || !m.Degraded() {
		t.Errorf("%d, %v, %v", m.Repairs(), m.Bad(), m.Degraded())
	}
}

// TestDegraded: a side whose power failed isn't gone.
func TestDegraded(t *testing.T) {
	for side := range remap.Sides {
		w := made(t, spares)
		w.d[side].Fuse(1)
		told(t, "the fuse", w.m.Flush(), api.ErrPower)
		w.tells(t, 0, false)
		w.d[side].Kill()
		w.tells(t, 0, true)
		w.replaced(t, side)
		w.tells(t, 0, false)
		w.d[0].Kill()
		w.d[1].Kill()
		w.tells(t, 0, true)
	}
}
