package space

import (
	"slices"
	"testing"

	"treenail/api"
)

// takes: Take answers these, in order.
func takes(t *testing.T, s *Space, want ...int) {
	t.Helper()
	for i, block := range want {
		before := s.Free()
		if k, e := s.Take(); k != block || e != api.OK {
			t.Fatalf("%d: Take() = %d, %v, not %d", i, k, e, block)
		}
		if !s.Used(block) || s.Free() != before-1 {
			t.Fatalf("%d: behind a Take of %d %d are free, not %d", i, block, s.Free(), before-1)
		}
	}
}

// isFull: none is free, however often one is asked for; what is asked for in vain changes nothing.
func isFull(t *testing.T, s *Space) {
	t.Helper()
	for range 3 {
		if k, e := s.Take(); k != 0 || e != api.ErrFull || s.Free() != 0 {
			t.Fatalf("Take() = %d, %v; %d are free", k, e, s.Free())
		}
	}
}

func gives(t *testing.T, s *Space, blocks ...int) {
	t.Helper()
	for _, block := range blocks {
		before := s.Free()
		isError(t, "Give", s.Give(block), api.OK)
		if !s.Used(block) || s.Free() != before {
			t.Fatalf("behind a Give of %d %d are free, not %d", block, s.Free(), before)
		}
	}
}

func uses(t *testing.T, s *Space, blocks ...int) {
	t.Helper()
	for _, block := range blocks {
		isError(t, "Use", s.Use(block), api.OK)
	}
}

// areFree: these alone are.
func areFree(t *testing.T, s *Space, want ...int) {
	t.Helper()
	var free []int
	for block := range s.free.Size() {
		if !s.Used(block) {
			free = append(free, block)
		}
	}
	if !slices.Equal(free, want) || s.Free() != len(want) {
		t.Fatalf("%d are free: %v, not %v", s.Free(), free, want)
	}
}

// span: the numbers from one to below another.
func span(from, to int) []int {
	var list []int
	for k := from; k < to; k++ {
		list = append(list, k)
	}
	return list
}

// P10.2: Take.

func TestTakeOfTheExample(t *testing.T) {
	s := newSpace(t, 4, 2, 0, 0)
	takes(t, s, 2, 3)
	isFull(t, s)
	areFree(t, s)
}

// TestTakeOfAllBlocks: by their rising numbers, till there is none.
func TestTakeOfAllBlocks(t *testing.T) {
	for _, shape := range shapes {
		s := newSpace(t, shape[0], shape[1], 5, 9)
		takes(t, s, span(shape[1], shape[0])...)
		isFull(t, s)
		s.Settle()
		isFull(t, s)
		s.Undo()
		isFull(t, s)
	}
}

// TestTakeOfTheOneThatIsLeft: at each place of a space.
func TestTakeOfTheOneThatIsLeft(t *testing.T) {
	for _, blocks := range []int{1, 2, 63, 64, 65, 129} {
		for left := range blocks {
			s := newSpace(t, blocks, 0, 5, 9)
			uses(t, s, slices.DeleteFunc(span(0, blocks), func(k int) bool { return k == left })...)
			areFree(t, s, left)
			takes(t, s, left)
			isFull(t, s)
		}
	}
}

// TestTakeGoesPastWhatIsUsed: also past what was taken ahead, and was used since.
func TestTakeGoesPastWhatIsUsed(t *testing.T) {
	s := newSpace(t, 140, 1, 5, 9)
	uses(t, s, 1, 3, 4)
	uses(t, s, span(6, 129)...)
	takes(t, s, 2, 5)
	uses(t, s, 130)
	takes(t, s, 129, 131)
	uses(t, s, span(132, 139)...)
	takes(t, s, 139)
	isFull(t, s)
}

// TestTakeGoesBackToWhatWasSettled: the first free one is told again from below what was taken last.
func TestTakeGoesBackToWhatWasSettled(t *testing.T) {
	s := newSpace(t, 130, 0, 5, 9)
	takes(t, s, span(0, 100)...)
	gives(t, s, 70, 3, 64)
	takes(t, s, 100) // what was given isn't free yet
	s.Settle()
	areFree(t, s, append([]int{3, 64, 70}, span(101, 130)...)...)
	takes(t, s, 3, 64, 70, 101)
	s.Undo()
	takes(t, s, 3, 64, 70, 101, 102)
}

func TestTakeOfASpaceThatGotFull(t *testing.T) {
	s := newSpace(t, 66, 2, 5, 9)
	takes(t, s, span(2, 66)...)
	isFull(t, s)
	gives(t, s, 65, 2)
	isFull(t, s)
	s.Settle()
	areFree(t, s, 2, 65)
	takes(t, s, 2, 65)
	isFull(t, s)
	s.Undo()
	takes(t, s, 2, 65)
	isFull(t, s)
}

// P10.2: Settle and Undo.

func TestSettleFreesWhatWasGivenAlone(t *testing.T) {
	s := newSpace(t, 10, 2, 5, 9)
	uses(t, s, 7, 8)
	takes(t, s, 2, 3, 4)
	gives(t, s, 3, 8)
	areFree(t, s, 5, 6, 9)
	s.Settle()
	areFree(t, s, 3, 5, 6, 8, 9)
	s.Settle()
	areFree(t, s, 3, 5, 6, 8, 9)
	s.Undo() // what was taken is so for good
	areFree(t, s, 3, 5, 6, 8, 9)
}

func TestUndoFreesWhatWasTakenAlone(t *testing.T) {
	s := newSpace(t, 10, 2, 5, 9)
	uses(t, s, 7, 8)
	takes(t, s, 2, 3, 4)
	gives(t, s, 3, 8)
	s.Undo()
	areFree(t, s, 2, 3, 4, 5, 6, 9)
	s.Undo()
	areFree(t, s, 2, 3, 4, 5, 6, 9)
	s.Settle() // 8 isn't given any more
	areFree(t, s, 2, 3, 4, 5, 6, 9)
	gives(t, s, 8)
	s.Settle()
	areFree(t, s, 2, 3, 4, 5, 6, 8, 9)
}

// TestUndoGoesBackToTheLastSettle, and not beyond it.
func TestUndoGoesBackToTheLastSettle(t *testing.T) {
	s := newSpace(t, 8, 0, 5, 9)
	takes(t, s, 0, 1, 2)
	gives(t, s, 1)
	s.Settle()
	takes(t, s, 1, 3)
	gives(t, s, 0, 3)
	s.Undo()
	areFree(t, s, 1, 3, 4, 5, 6, 7)
	takes(t, s, 1, 3)
	gives(t, s, 0, 2)
	s.Settle()
	areFree(t, s, 0, 2, 4, 5, 6, 7)
}

// TestSettleAndUndoBehindNothing: a new space, one that was only used of, and one that is full.
func TestSettleAndUndoBehindNothing(t *testing.T) {
	for _, shape := range shapes {
		s, w := both(t, shape[0], shape[1])
		for _, c := range []call{{kind: settle}, {kind: undo}, {kind: undo}, {kind: settle}, {use, shape[0] - 1}, {kind: undo}, {kind: settle}} {
			w.does(t, s, c)
			w.looks(t, s)
		}
	}
}

// TestABlockThatWasTakenAndGiven: whichever end comes, it is free.
func TestABlockThatWasTakenAndGiven(t *testing.T) {
	for _, end := range []func(s *Space){(*Space).Settle, (*Space).Undo} {
		s := newSpace(t, 3, 0, 5, 9)
		takes(t, s, 0, 1)
		gives(t, s, 0)
		takes(t, s, 2)
		end(s)
		if s.Used(0) {
			t.Errorf("0 isn't free")
		}
		isError(t, "Give of a free block", s.Give(0), api.ErrNone)
		takes(t, s, 0)
	}
}

// TestSettleAndUndoInAnyOrder: what they free is told behind takes and gives of many blocks, in orders that don't rise.
func TestSettleAndUndoInAnyOrder(t *testing.T) {
	for _, shape := range shapes {
		blocks, first := shape[0], shape[1]
		for _, ends := range [][]int{{settle}, {undo}, {settle, undo}, {undo, settle}, {settle, settle}, {undo, undo}} {
			s, w := both(t, blocks, first)
			for round := range 6 {
				for range (blocks - first) / 3 {
					w.does(t, s, call{kind: take})
				}
				for k := range blocks - first {
					if k%(round+2) == 0 {
						w.does(t, s, call{give, blocks - 1 - k})
					}
				}
				for _, end := range ends {
					w.does(t, s, call{kind: end})
					w.looks(t, s)
				}
			}
		}
	}
}

// P10.4

// history is what was told of each block: was it taken, and not given and settled since?
type history struct {
	held         []bool
	taken, given []int // since the last Settle or Undo
}

func (h *history) takes(t *testing.T, s *Space) {
	t.Helper()
	block, e := s.Take()
	if e != api.OK {
		return
	}
	if h.held[block] {
		t.Fatalf("%d was taken again", block)
	}
	h.held[block] = true
	h.taken = append(h.taken, block)
}

func (h *history) gives(s *Space, block int) {
	if s.Give(block) == api.OK {
		h.given = append(h.given, block)
	}
}

// ends: these may be taken again.
func (h *history) ends(freed []int) {
	for _, block := range freed {
		h.held[block] = false
	}
	h.taken, h.given = nil, nil
}

// TestNoBlockIsTakenTwice: without a Give, and a Settle, in between; of walks without any Undo, and of some with it (which makes what it undoes as if it hadn't been taken).
func TestNoBlockIsTakenTwice(t *testing.T) {
	for _, shape := range shapes {
		for _, undoes := range []bool{false, true} {
			next := stepper()
			s, h := newSpace(t, shape[0], shape[1], 5, 9), &history{held: make([]bool, shape[0])}
			for range 20000 {
				switch k := next(40); {
				case k < 20:
					h.takes(t, s)
				case k < 37:
					h.gives(s, next(shape[0]))
				case k < 39 || !undoes:
					s.Settle()
					h.ends(h.given)
				default:
					s.Undo()
					h.ends(h.taken)
				}
			}
		}
	}
}

// P10.3

// steps: Step answers these, in order.
func steps(t *testing.T, s *Space, want ...uint64) {
	t.Helper()
	for i, gen := range want {
		if k, e := s.Step(); k != gen || e != api.OK || s.Gen() != gen {
			t.Fatalf("%d: Step() = %d, %v, not %d; Gen is %d", i, k, e, gen, s.Gen())
		}
	}
}

// isLast: there is no further generation, however often one is asked for; the last one is told still.
func isLast(t *testing.T, s *Space, last uint64) {
	t.Helper()
	for range 3 {
		if k, e := s.Step(); k != 0 || e != api.ErrGen || s.Gen() != last {
			t.Fatalf("Step() = %d, %v, not an end; Gen is %d, not %d", k, e, s.Gen(), last)
		}
	}
}

func TestStepUpToTheLast(t *testing.T) {
	for _, x := range []struct {
		gen, last uint64
		steps     []uint64
	}{
		{0, 0, nil}, {7, 7, nil}, {0, 1, []uint64{1}}, {5, 7, []uint64{6, 7}}, {0, 3, []uint64{1, 2, 3}},
		{255, 257, []uint64{256, 257}}, {65535, 65536, []uint64{65536}}, {1<<32 - 1, 1<<32 + 1, []uint64{1 << 32, 1<<32 + 1}},
		{topBit - 1, topBit + 1, []uint64{topBit, topBit + 1}}, {mostGen - 2, mostGen, []uint64{mostGen - 1, mostGen}},
		{mostGen - 1, mostGen - 1, nil}, {mostGen, mostGen, nil}, {1 << 32, 1 << 32, nil}, {topBit, topBit, nil},
	} {
		s := newSpace(t, 4, 1, x.gen, x.last)
		if s.Gen() != x.gen {
			t.Errorf("Gen() = %d, not %d", s.Gen(), x.gen)
		}
		steps(t, s, x.steps...)
		isLast(t, s, x.last)
	}
}

func TestManySteps(t *testing.T) {
	s := newSpace(t, 4, 1, 3, 5000)
	for gen := uint64(4); gen <= 5000; gen++ {
		steps(t, s, gen)
	}
	isLast(t, s, 5000)
}

// TestStepsAndBlocksHaveNothingToDoWithEachOther: an Undo takes no generation back, and no Step is refused when all are used.
func TestStepsAndBlocksHaveNothingToDoWithEachOther(t *testing.T) {
	s := newSpace(t, 6, 2, 5, 8)
	takes(t, s, 2, 3)
	steps(t, s, 6)
	s.Undo()
	if s.Gen() != 6 {
		t.Errorf("behind an Undo Gen is %d", s.Gen())
	}
	takes(t, s, 2, 3, 4, 5)
	isFull(t, s)
	steps(t, s, 7)
	gives(t, s, 4)
	s.Settle()
	steps(t, s, 8)
	isLast(t, s, 8)
	areFree(t, s, 4)
	takes(t, s, 4)
	s.Undo()
	s.Undo()
	isLast(t, s, 8)
	areFree(t, s, 4)
}
