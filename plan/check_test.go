package plan

import (
	"testing"

	"treenail/api"
)

// P18.1: Check.

func checks(t *testing.T, p Plan, size int, want api.Errno) {
	t.Helper()
	if e := p.Check(size); e != want {
		t.Errorf("%v.Check(%d) = %v, not %v", p, size, e, want)
	}
}

// TestCheckOfSome: written out; of these a node has 253 bytes, a leaf 50 of each entry, but for those of 1000 bytes each.
func TestCheckOfSome(t *testing.T) {
	for _, x := range []struct {
		p    Plan
		size int
		want api.Errno
	}{
		{Plan{3, 3, 2}, 277, api.OK}, // a node has exactly the room
		{Plan{3, 3, 2}, 276, api.ErrLong},
		{Plan{3, 3, 2}, 278, api.OK},
		{Plan{3, 3, 2}, 128, api.ErrLong}, // a leaf has room, and a node hasn't
		{Plan{3, 3, 2}, 127, api.ErrArg},
		{Plan{3, 3, 5}, 276, api.ErrLong},
		{Plan{3, 3, 5}, 277, api.OK},
		{Plan{3, 3, 6}, 323, api.ErrLong}, // a node has room, and a leaf hasn't
		{Plan{3, 3, 6}, 324, api.OK},      // a leaf has exactly the room
		{Plan{3, 3, 64}, 1024, api.ErrLong},
		{Plan{3, 64, 2}, 1024, api.ErrLong},
		{Plan{16, 16, 2}, 1024, api.ErrLong},
		{Plan{16, 64, 64}, 1024, api.ErrLong}, // neither has room
		{Plan{4, 17, 20}, 1024, api.OK},       // both have exactly the room
		{Plan{4, 17, 20}, 1023, api.ErrLong},
		{Plan{4, 17, 20}, 1025, api.ErrArg},
		{Plan{4, 17, 21}, 1024, api.ErrLong},
		{Plan{4, 18, 20}, 1024, api.ErrLong},
		{Plan{4, 18, 21}, 1024, api.ErrLong},
		{Plan{5, 17, 20}, 1024, api.ErrLong},
		{Plan{4, 16, 20}, 1024, api.OK},
		{Plan{4, 17, 19}, 1024, api.OK},
		{Plan{4, 17, 19}, 1023, api.ErrLong},
		{Plan{}, 1024, api.ErrArg},
		{Plan{}, 128, api.ErrArg},
		{Plan{}, 0, api.ErrArg},
		{Plan{2, 3, 2}, 1024, api.ErrArg},
		{Plan{17, 17, 2}, 1024, api.ErrArg},
		{Plan{3, 2, 2}, 1024, api.ErrArg},
		{Plan{3, 65, 2}, 1024, api.ErrArg},
		{Plan{3, 3, 1}, 1024, api.ErrArg},
		{Plan{3, 3, 65}, 1024, api.ErrArg},
		{Plan{3, 3, 65}, 1025, api.ErrArg},
		{Plan{3, 3, 2}, 0, api.ErrArg},
		{Plan{3, 3, 2}, -1, api.ErrArg},
		{Plan{3, 3, 2}, -320, api.ErrArg},
		{Plan{3, 3, 2}, least, api.ErrArg},
		{Plan{3, 3, 2}, greatest, api.ErrArg},
		{Plan{16, 64, 64}, 127, api.ErrArg}, // it hasn't room, either
		{Plan{16, 64, 64}, 0, api.ErrArg},
		{Plan{16, 64, 64}, 4096, api.ErrArg},
		{Plan{greatest, greatest, greatest}, greatest, api.ErrArg},
		{Plan{least, least, least}, least, api.ErrArg},
	} {
		checks(t, x.p, x.size, x.want)
	}
}

// TestCheckOfEachLimit: plans at the limits, and beyond them, with each size.
func TestCheckOfEachLimit(t *testing.T) {
	w := newTwin(t)
	sizes := append(wide(), 0, 1, 24)
	for size := 100; size <= 1050; size++ {
		sizes = append(sizes, size)
	}
	for _, p := range limitPlans() {
		for _, size := range sizes {
			checks(t, p, size, w.check(p, size))
		}
	}
}

// TestCheckOfWidePlans: with some sizes.
func TestCheckOfWidePlans(t *testing.T) {
	w := newTwin(t)
	for _, p := range widePlans() {
		for _, size := range []int{least, -1, 0, 127, 128, 277, 1023, 1024, 1025, greatest} {
			checks(t, p, size, w.check(p, size))
		}
	}
}

// TestCheckOfPlansThatMayNotBe: with each size.
func TestCheckOfPlansThatMayNotBe(t *testing.T) {
	for _, p := range []Plan{
		{},
		{2, 8, 4},
		{17, 20, 4},
		{4, 3, 4},
		{4, 65, 4},
		{4, 8, 1},
		{4, 8, 65},
		{0, 3, 2},
		{3, 0, 2},
		{3, 3, 0},
		{-3, 3, 2},
		{3, -3, 2},
		{3, 3, -2},
		{least, 3, 2},
		{3, least, 2},
		{3, 3, least},
		{greatest, 3, 2},
		{3, greatest, 2},
		{3, 3, greatest},
	} {
		for size := 120; size <= 1030; size++ {
			checks(t, p, size, api.ErrArg)
		}
	}
}

// TestCheckOfAll: of all plans that may be, about the sizes that have room for their nodes and for their leaves, and about the limits.
func TestCheckOfAll(t *testing.T) {
	w := newTwin(t)
	told := map[api.Errno]int{}
	for _, all := range w.all {
		for _, p := range all {
			sizes := []int{127, 128, 1024, 1025}
			for _, bytes := range []int{w.nodeBytes(p), w.leafBytes(p)} {
				sizes = append(sizes, bytes+7, bytes+8, bytes+23, bytes+24, bytes+25)
			}
			for _, size := range sizes {
				checks(t, p, size, w.check(p, size))
				told[w.check(p, size)]++
			}
		}
	}
	for _, e := range []api.Errno{api.OK, api.ErrArg, api.ErrLong} {
		if told[e] < 1000 {
			t.Errorf("%v: %d", e, told[e])
		}
	}
}
