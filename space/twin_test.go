package space

import (
	"math"
	"slices"
	"testing"

	"treenail/api"
)

// twin is a space as the chapter says it, kept otherwise than the program does: its blocks stand in lists, and what the last calls did is told by them.
type twin struct {
	blocks, first      int
	free, taken, given []int // the free ones rise
	gen, last          uint64
}

func twinOf(blocks, first int, gen, last uint64) *twin {
	w := &twin{blocks: blocks, first: first, gen: gen, last: last}
	for block := first; block < blocks; block++ {
		w.free = append(w.free, block)
	}
	return w
}

func (w *twin) has(block int) bool { return block >= 0 && block < w.blocks }

func (w *twin) isFree(block int) bool {
	_, ok := slices.BinarySearch(w.free, block)
	return ok
}

func (w *twin) use(block int) api.Errno {
	switch at, free := slices.BinarySearch(w.free, block); {
	case !w.has(block) || block < w.first:
		return api.ErrRange
	case !free:
		return api.ErrThere
	default:
		w.free = slices.Delete(w.free, at, at+1)
		return api.OK
	}
}

func (w *twin) take() (int, api.Errno) {
	if len(w.free) == 0 {
		return 0, api.ErrFull
	}
	block := w.free[0]
	w.free, w.taken = w.free[1:], append(w.taken, block)
	return block, api.OK
}

func (w *twin) give(block int) api.Errno {
	switch {
	case !w.has(block) || block < w.first:
		return api.ErrRange
	case w.isFree(block):
		return api.ErrNone
	case slices.Contains(w.given, block):
		return api.ErrThere
	default:
		w.given = append(w.given, block)
		return api.OK
	}
}

func (w *twin) settle() { w.end(w.given) }

func (w *twin) undo() { w.end(w.taken) }

func (w *twin) end(freed []int) {
	w.free = slices.Concat(w.free, freed)
	slices.Sort(w.free)
	w.taken, w.given = nil, nil
}

func (w *twin) step() (uint64, api.Errno) {
	if w.gen == w.last {
		return 0, api.ErrGen
	}
	w.gen++
	return w.gen, api.OK
}

// looks: the space's Free, Gen and each Used are the twin's, also of blocks that there aren't.
func (w *twin) looks(t *testing.T, s *Space) {
	t.Helper()
	w.isSame(t, s)
	for _, block := range notBlocks(w.blocks) {
		if s.Used(block) {
			t.Fatalf("of %d blocks, %d never free: Used(%d) = true", w.blocks, w.first, block)
		}
	}
}

// isSame: Free, Gen and the Used of each block that there is.
func (w *twin) isSame(t *testing.T, s *Space) {
	t.Helper()
	if s.Free() != len(w.free) || s.Gen() != w.gen {
		t.Fatalf("of %d blocks, %d never free: %d are free, the generation is %d; not %d, %d", w.blocks, w.first, s.Free(), s.Gen(), len(w.free), w.gen)
	}
	at := 0 // in the free ones, as they rise
	for block := range w.blocks {
		free := at < len(w.free) && w.free[at] == block
		if free {
			at++
		}
		if s.Used(block) == free {
			t.Fatalf("of %d blocks, %d never free: Used(%d) = %v", w.blocks, w.first, block, !free)
		}
	}
}

// The calls of a space that may change it.
const (
	use = iota
	take
	give
	settle
	undo
	step
)

// call is one of these; of use and give alone the block counts.
type call struct{ kind, block int }

// does: the space's answer to a call is the twin's.
func (w *twin) does(t *testing.T, s *Space, c call) {
	t.Helper()
	var told, want uint64
	var e, wanted api.Errno
	switch c.kind {
	case use:
		e, wanted = s.Use(c.block), w.use(c.block)
	case take:
		told, e = number(s.Take())
		want, wanted = number(w.take())
	case give:
		e, wanted = s.Give(c.block), w.give(c.block)
	case settle:
		s.Settle()
		w.settle()
	case undo:
		s.Undo()
		w.undo()
	case step:
		told, e = s.Step()
		want, wanted = w.step()
	}
	if told != want || e != wanted {
		t.Fatalf("of %d blocks, %d never free: %v is %d, %v; not %d, %v", w.blocks, w.first, c, told, e, want, wanted)
	}
}

func number(block int, e api.Errno) (uint64, api.Errno) { return uint64(block), e }

func (w *twin) doesAll(t *testing.T, s *Space, calls []call) {
	t.Helper()
	for _, c := range calls {
		w.does(t, s, c)
	}
}

func newSpace(t *testing.T, blocks, first int, gen, last uint64) *Space {
	t.Helper()
	s, e := New(blocks, first, gen, last)
	if s == nil || e != api.OK {
		t.Fatalf("New(%d, %d, %d, %d): %v", blocks, first, gen, last, e)
	}
	return s
}

// both: a space and its twin, behind some calls.
func both(t *testing.T, blocks, first int, calls ...call) (*Space, *twin) {
	t.Helper()
	s, w := newSpace(t, blocks, first, 5, 9), twinOf(blocks, first, 5, 9)
	w.doesAll(t, s, calls)
	return s, w
}

// notBlocks: of so many, such as there aren't; also such whose last bits alone are one.
func notBlocks(blocks int) []int {
	return []int{
		-1, -2, -63, -64, -65, -blocks, -blocks - 1, -4096, -1 << 16, -1 << 32, -1<<32 + blocks - 1, math.MinInt, math.MinInt + 1, math.MinInt + blocks - 1,
		blocks, blocks + 1, blocks + 63, blocks + 64, blocks + 65, 4096, 4097, 4096 + blocks - 1, 8192, 1 << 16, 1<<16 + blocks - 1, 1 << 32, 1<<32 + blocks - 1, math.MaxInt - 1, math.MaxInt,
	}
}

// stepper: numbers below others, as if by chance, but always the same ones.
func stepper() func(below int) int {
	state := uint64(9)
	return func(below int) int {
		state = state*6364136223846793005 + 1442695040888963407
		return int(state >> 33 % uint64(below))
	}
}

// shapes: blocks, and how many of them are never free.
var shapes = [][2]int{{1, 0}, {2, 0}, {2, 1}, {3, 1}, {8, 3}, {63, 2}, {64, 0}, {64, 63}, {65, 1}, {65, 64}, {128, 64}, {130, 65}, {300, 7}, {4096, 0}, {4096, 8}, {4096, 4095}}

// TestBesideATwin: a walk through calls of all kinds, also of blocks that there aren't or that are never free; all blocks are looked at behind every call (of the greatest spaces behind some, as there are too many of them).
func TestBesideATwin(t *testing.T) {
	for _, shape := range shapes {
		next := stepper()
		s, w := both(t, shape[0], shape[1])
		for range 4000 {
			w.does(t, s, anyCall(next, w))
			if w.blocks <= 300 || next(20) == 0 {
				w.looks(t, s)
			}
		}
		w.looks(t, s)
	}
}

// anyCall: takes and gives are many, so that spaces go full; the lists are cut off seldom, so that they grow.
func anyCall(next func(below int) int, w *twin) call {
	block := next(w.blocks+4) - 2
	switch k := next(60); {
	case k < 25:
		return call{kind: take}
	case k < 45:
		return call{give, block}
	case k < 55:
		return call{use, block}
	case k < 57:
		return call{kind: settle}
	case k < 59:
		return call{kind: undo}
	default:
		return call{kind: step}
	}
}

// TestEveryWayOfSmallSpaces: all sequences of so many calls, each of them on a space of its own, which is looked at behind every call.
func TestEveryWayOfSmallSpaces(t *testing.T) {
	for _, x := range []struct{ blocks, first, calls int }{{1, 0, 7}, {2, 1, 7}, {2, 0, 6}, {3, 1, 6}, {3, 0, 5}} {
		kinds := []call{{kind: take}, {kind: settle}, {kind: undo}}
		for block := x.first; block < x.blocks; block++ {
			kinds = append(kinds, call{use, block}, call{give, block})
		}
		count := 1
		for range x.calls {
			count *= len(kinds)
		}
		for way := range count {
			s, w := both(t, x.blocks, x.first)
			for rest, left := way, x.calls; left > 0; rest, left = rest/len(kinds), left-1 {
				w.does(t, s, kinds[rest%len(kinds)])
				w.isSame(t, s)
			}
		}
	}
}
