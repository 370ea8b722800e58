package mirror

import (
	"slices"
	"testing"

	"treenail/api"
	"treenail/dev"
	"treenail/env"
	"treenail/remap"
)

// An answer is all that a call tells.
type answer struct {
	kind   env.Kind
	text   string
	number int
	images []string
	whole  [2]bool
	e      api.Errno
}

func (a answer) equal(b answer) bool {
	return a.kind == b.kind && a.text == b.text && a.number == b.number && slices.Equal(a.images, b.images) && a.whole == b.whole && a.e == b.e
}

// A call is one of a mirror's, of the block that is damaged.
type call struct {
	name string
	does func(m *Mirror) answer
}

func calls() []call {
	want := known(written())
	return []call{
		{"Write", func(m *Mirror) answer { return answer{e: m.Write(block, elder())} }},
		{"Flush", func(m *Mirror) answer { return answer{e: m.Flush()} }},
		{"Read", func(m *Mirror) (a answer) { a.kind, a.text, a.e = m.Read(want); return }},
		{"Images", func(m *Mirror) (a answer) { a.images, a.e = m.Images(block); return }},
		{"Heal", func(m *Mirror) (a answer) { a.number, a.e = m.Heal(block, elder()); return }},
		{"Heal with what was written", func(m *Mirror) (a answer) { a.number, a.e = m.Heal(block, written()); return }},
		{"Check", func(m *Mirror) (a answer) { a.number, a.e = m.Check(want); return }},
		{"Whole", func(m *Mirror) (a answer) { a.whole, a.e = m.Whole(want); return }},
	}
}

// someDamages: one of each kind that is written anew in a way of its own.
func someDamages() []damage {
	return slices.DeleteFunc(damages(), func(x damage) bool {
		return !slices.Contains([]string{"whole", "garbled: the payload", "lost", "on a bad sector", "gone"}, x.name)
	})
}

func eachFew(t *testing.T, does func(t *testing.T, spares int, both [2]damage, c call)) {
	t.Helper()
	for _, first := range someDamages() {
		for _, second := range someDamages() {
			for _, spares := range []int{0, 1, spares} {
				for _, c := range calls() {
					does(t, spares, [2]damage{first, second}, c)
				}
			}
		}
	}
}

// TestEachFuse: at each write and flush of each device: if the power failed, ErrPower is told, and nothing beside it, and nothing is asked of any device behind that; else all is as without a fuse. Behind the crash the call does what it does without one.
func TestEachFuse(t *testing.T) {
	struck := 0
	eachFew(t, func(t *testing.T, spares int, both [2]damage, c call) {
		plain := damaged(t, spares, both)
		want := c.does(plain.m)
		for side := range remap.Sides {
			for n := 1; n <= 12; n++ {
				w := damaged(t, spares, both)
				w.d[side].Fuse(n)
				got := c.does(w.m)
				if !w.d[side].Off() {
					if !got.equal(want) {
						t.Errorf("%s, %s, %s, the fuse %d of the side %d: %v, not %v", c.name, both[0].name, both[1].name, n, side, got, want)
					}
					continue
				}
				struck++
				if !got.equal(answer{e: api.ErrPower}) {
					t.Errorf("%s, %s, %s, the fuse %d of the side %d: %v", c.name, both[0].name, both[1].name, n, side, got)
				}
				w.behind(t, side, c, want, both)
			}
		}
	})
	if struck < 500 {
		t.Errorf("only %d fuses struck", struck)
	}
}

// behind: the power is on again, all that was written is kept, and the call is made once more.
func (w *world) behind(t *testing.T, side int, c call, want answer, both [2]damage) {
	t.Helper()
	bad := w.m.Bad()
	w.d[side].Crash(slices.Repeat([]dev.Fate{dev.Keep}, 20))
	if got := c.does(w.m); got.e != want.e || got.kind != want.kind || got.text != want.text || got.number > want.number {
		t.Errorf("%s, %s, %s, once more: %v, not %v", c.name, both[0].name, both[1].name, got, want)
	}
	for _, x := range bad {
		if !slices.Contains(w.m.Bad(), x) {
			t.Errorf("%s: %v isn't bad any more", c.name, x)
		}
	}
}

// TestNothingIsAskedBehindAFailure: the side 1 is neither read nor written, once the side 0's power failed.
func TestNothingIsAskedBehindAFailure(t *testing.T) {
	eachFew(t, func(t *testing.T, spares int, both [2]damage, c call) {
		if both[0].gone {
			return
		}
		w := damaged(t, spares, both)
		off(t, w.d[0])
		reads, writes, flushes := w.d[1].Count()
		if got := c.does(w.m); !got.equal(answer{e: api.ErrPower}) {
			t.Errorf("%s, %s, %s: %v", c.name, both[0].name, both[1].name, got)
		}
		if r, x, f := w.d[1].Count(); r != reads || x != writes || f != flushes {
			t.Errorf("%s, %s, %s: %d reads, %d writes, %d flushes", c.name, both[0].name, both[1].name, r-reads, x-writes, f-flushes)
		}
		w.tells(t, 0, both[1].gone)
	})
}

// off: the device's power fails.
func off(t *testing.T, d *dev.Device) {
	t.Helper()
	d.Fuse(1)
	told(t, "the fuse", d.Flush(), api.ErrPower)
}

// TestTheSide1HasNoPower: each call tells it, but for a Read of the side 0's whole copy, which doesn't ask the side 1. What was done to the side 0 ahead of it is done.
func TestTheSide1HasNoPower(t *testing.T) {
	eachFew(t, func(t *testing.T, spares int, both [2]damage, c call) {
		if both[1].gone {
			return
		}
		w := damaged(t, spares, both)
		off(t, w.d[1])
		want := answer{e: api.ErrPower}
		if c.name == "Read" && both[0].whole {
			want = answer{kind: env.Node, text: payload}
		}
		if got := c.does(w.m); !got.equal(want) {
			t.Errorf("%s, %s, %s: %v, not %v", c.name, both[0].name, both[1].name, got, want)
		}
		if both[0].reads && (c.name == "Write" || c.name == "Heal") && w.copy(0, block) != elder() {
			t.Errorf("%s, %s, %s: the side 0 has %q", c.name, both[0].name, both[1].name, w.copy(0, block))
		}
	})
}

// TestThePowerOfASideThatIsGone: it is passed over, and its power isn't told.
func TestThePowerOfASideThatIsGone(t *testing.T) {
	for side := range remap.Sides {
		w := made(t, spares)
		writes(t, w.m, block, written())
		off(t, w.d[side])
		w.d[side].Kill()
		want := []answer{{e: api.OK}, {}, {kind: env.Node, text: payload}, {images: []string{written()}}, {number: 1}, {}, {}, {}}
		want[7].whole[1-side] = true
		for k, c := range calls() {
			told(t, "layer 7's Write", w.p.Write(1-side, block, written()), api.OK)
			if got := c.does(w.m); !got.equal(want[k]) {
				t.Errorf("%s: %v, not %v", c.name, got, want[k])
			}
		}
		w.tells(t, 1, true)
		off(t, w.d[1-side])
		for _, c := range calls() {
			if got := c.does(w.m); !got.equal(answer{e: api.ErrPower}) {
				t.Errorf("%s: %v", c.name, got)
			}
		}
		w.d[1-side].Kill()
		for _, c := range calls() {
			want := answer{e: api.ErrLost}
			if slices.Contains([]string{"Images", "Heal", "Heal with what was written", "Whole"}, c.name) {
				want.e = api.OK
			}
			if got := c.does(w.m); !got.equal(want) {
				t.Errorf("%s: %v, not %v", c.name, got, want)
			}
		}
	}
}

// TestThePowerFailsAsATableIsKept: a move writes to the other device, too, whose power may fail.
func TestThePowerFailsAsATableIsKept(t *testing.T) {
	for side := range remap.Sides {
		for _, c := range calls() {
			if c.name == "Flush" || c.name == "Images" || c.name == "Whole" || c.name == "Read" && side == 1 {
				continue
			}
			whole := damages()[0]
			both := [2]damage{whole, whole}
			both[side] = damage{does: func(w *world, side int) { w.d[side].Stick(slots + block) }}
			w := damaged(t, spares, both)
			w.d[1-side].Fuse(1)
			if side == 1 && (c.name == "Write" || c.name == "Heal") {
				w.d[0].Fuse(2) // the first one is the side 0's own copy
			}
			if got := c.does(w.m); !got.equal(answer{e: api.ErrPower}) || !w.d[1-side].Off() {
				t.Errorf("%s: %v", c.name, got)
			}
			if w.copy(side, block) != "" || w.p.Table(side).Gen() != 0 {
				t.Errorf("%s: %q", c.name, w.copy(side, block))
			}
		}
	}
}

// TestARepairAheadOfAFailure: it counts, as the side 0 was repaired.
func TestARepairAheadOfAFailure(t *testing.T) {
	w := made(t, spares)
	writes(t, w.m, block, written())
	w.d[1].Fuse(1)
	if n, e := w.m.Heal(block, elder()); n != 0 || e != api.ErrPower {
		t.Errorf("%d, %v", n, e)
	}
	w.tells(t, 1, false)
	if w.copy(0, block) != elder() {
		t.Errorf("%q", w.copy(0, block))
	}
	w.d[1].Crash([]dev.Fate{dev.Keep})
	w.has(t, block, [2]string{elder(), written()})
	if n, e := w.m.Check(known(elder())); n != 1 || e != api.OK {
		t.Errorf("%d, %v", n, e)
	}
	w.tells(t, 2, false)
}
