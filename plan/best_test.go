package plan

import (
	"testing"

	"treenail/api"
)

// P18.2: Best.

func isBest(t *testing.T, size, fanout int, want Plan, wanted api.Errno) {
	t.Helper()
	if p, e := Best(size, fanout); p != want || e != wanted {
		t.Errorf("Best(%d, %d) = %v, %v, not %v, %v", size, fanout, p, e, want, wanted)
	}
}

func TestBestOfTheExample(t *testing.T) {
	isBest(t, 320, 3, Plan{3, 3, 5}, api.OK)
}

// TestBestOfSome: written out.
func TestBestOfSome(t *testing.T) {
	for _, x := range []struct {
		size, fanout int
		p            Plan
		e            api.Errno
	}{
		{128, 3, Plan{}, api.ErrLong},
		{256, 3, Plan{}, api.ErrLong},
		{276, 3, Plan{}, api.ErrLong},
		{277, 3, Plan{3, 3, 5}, api.OK},
		{323, 3, Plan{3, 3, 5}, api.OK},
		{324, 3, Plan{3, 3, 6}, api.OK}, // the leaf grows alone
		{327, 3, Plan{3, 3, 6}, api.OK},
		{328, 3, Plan{3, 4, 6}, api.OK}, // the buffer grows alone
		{512, 3, Plan{3, 7, 9}, api.OK},
		{1023, 3, Plan{3, 17, 19}, api.OK},
		{1024, 3, Plan{3, 17, 20}, api.OK},
		{360, 4, Plan{}, api.ErrLong},
		{361, 4, Plan{4, 4, 6}, api.OK},
		{1023, 4, Plan{4, 16, 19}, api.OK},
		{1024, 4, Plan{4, 17, 20}, api.OK},
		{1024, 5, Plan{5, 16, 20}, api.OK},
		{1024, 8, Plan{8, 14, 20}, api.OK},
		{948, 11, Plan{}, api.ErrLong},
		{949, 11, Plan{11, 11, 18}, api.OK},
		{1024, 11, Plan{11, 12, 20}, api.OK},
		{1024, 12, Plan{}, api.ErrLong}, // no size has room for a full node of so many
		{1024, 16, Plan{}, api.ErrLong},
		{128, 16, Plan{}, api.ErrLong},
		{1024, 2, Plan{}, api.ErrArg},
		{1024, 17, Plan{}, api.ErrArg},
		{127, 3, Plan{}, api.ErrArg},
		{1025, 3, Plan{}, api.ErrArg},
		{1025, 12, Plan{}, api.ErrArg},
		{128, 2, Plan{}, api.ErrArg}, // there is none, either
		{127, 16, Plan{}, api.ErrArg},
		{127, 17, Plan{}, api.ErrArg},
		{1024, 0, Plan{}, api.ErrArg},
		{0, 3, Plan{}, api.ErrArg},
		{0, 0, Plan{}, api.ErrArg},
		{-320, -3, Plan{}, api.ErrArg},
		{1024, least, Plan{}, api.ErrArg},
		{1024, greatest, Plan{}, api.ErrArg},
		{least, 3, Plan{}, api.ErrArg},
		{greatest, 3, Plan{}, api.ErrArg},
		{least, greatest, Plan{}, api.ErrArg},
		{greatest, least, Plan{}, api.ErrArg},
	} {
		isBest(t, x.size, x.fanout, x.p, x.e)
	}
}

// TestBestOfEachSize: and of each Fanout, beside the second reckoning.
func TestBestOfEachSize(t *testing.T) {
	w := newTwin(t)
	told := map[api.Errno]int{}
	for size := 120; size <= 1030; size++ {
		for fanout := -1; fanout <= 20; fanout++ {
			p, e := w.best(size, fanout)
			isBest(t, size, fanout, p, e)
			told[e]++
		}
	}
	for _, e := range []api.Errno{api.OK, api.ErrArg, api.ErrLong} {
		if told[e] < 1000 {
			t.Errorf("%v: %d", e, told[e])
		}
	}
}

// TestBestOfWhatMayNotBe: the size, the Fanout, and both.
func TestBestOfWhatMayNotBe(t *testing.T) {
	wrong := append(wide(), 0, 1, 2, 17, 64, 127, 1025, 2048)
	for _, x := range wrong {
		for size := 120; size <= 1030; size++ {
			isBest(t, size, x, Plan{}, api.ErrArg)
		}
		for _, y := range wrong {
			isBest(t, x, y, Plan{}, api.ErrArg)
		}
	}
	for _, size := range append(wide(), 0, 1, 3, 16, 24, 64, 127, 1025, 1048, 2048, 4096) {
		for fanout := -1; fanout <= 20; fanout++ {
			isBest(t, size, fanout, Plan{}, api.ErrArg)
		}
	}
}

// TestBestIsChecked: it is OK, and with one message more, or one entry more, it isn't.
func TestBestIsChecked(t *testing.T) {
	for size := 128; size <= 1024; size++ {
		for fanout := 3; fanout <= 16; fanout++ {
			p, e := Best(size, fanout)
			if e != api.OK {
				continue
			}
			checks(t, p, size, api.OK)
			if p.Fanout != fanout {
				t.Errorf("Best(%d, %d): %v", size, fanout, p)
			}
			if (Plan{fanout, p.Buffer + 1, p.Leaf}).Check(size) == api.OK || (Plan{fanout, p.Buffer, p.Leaf + 1}).Check(size) == api.OK {
				t.Errorf("Best(%d, %d): %v isn't the greatest", size, fanout, p)
			}
		}
	}
}
