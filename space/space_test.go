package space

import (
	"math"
	"testing"

	"treenail/api"
)

var (
	counts    = []int{1, 2, 3, 8, 63, 64, 65, 127, 128, 129, 300, 4095, 4096}
	notCounts = []int{0, -1, -2, -8, -64, -4096, 4097, 4098, 4160, 8192, 1 << 16, 1<<16 + 8, 1 << 32, 1<<32 + 8, -1<<32 + 8, math.MinInt, math.MinInt + 8, math.MaxInt - 1, math.MaxInt}
)

const (
	mostGen = math.MaxUint64
	topBit  = 1 << 63
)

func refusesNew(t *testing.T, blocks, first int, gen, last uint64) {
	t.Helper()
	if s, e := New(blocks, first, gen, last); s != nil || e != api.ErrArg {
		t.Errorf("New(%d, %d, %d, %d) = %v, %v", blocks, first, gen, last, s, e)
	}
}

// P10.1: New.

func TestNewOfEachCount(t *testing.T) {
	for blocks := -100; blocks <= 4300; blocks++ {
		if blocks < 1 || blocks > 4096 {
			refusesNew(t, blocks, 0, 0, 0)
			continue
		}
		s := newSpace(t, blocks, 0, 0, 0)
		if s.Free() != blocks || s.Used(0) || s.Used(blocks-1) || s.Used(blocks) {
			t.Errorf("New(%d, 0): %d are free", blocks, s.Free())
		}
	}
}

func TestNewOfTheLeastAndOfTheGreatestCount(t *testing.T) {
	for _, blocks := range []int{1, api.MaxSectors} {
		for _, first := range []int{0, blocks - 1} {
			twinOf(blocks, first, 2, 3).looks(t, newSpace(t, blocks, first, 2, 3))
		}
	}
	refusesNew(t, 0, 0, 2, 3)
	refusesNew(t, 0, -1, 2, 3)
	refusesNew(t, api.MaxSectors+1, 0, 2, 3)
	refusesNew(t, api.MaxSectors+1, api.MaxSectors, 2, 3)
}

func TestNewRefusesCounts(t *testing.T) {
	for _, blocks := range notCounts {
		for _, first := range []int{0, 1, 7, blocks - 1} {
			refusesNew(t, blocks, first, 0, 0)
			refusesNew(t, blocks, first, 1, 2)
		}
	}
}

// TestNewOfEachFirst: from none that is never free to all but one.
func TestNewOfEachFirst(t *testing.T) {
	for _, blocks := range counts {
		for first := -3; first <= blocks+3; first++ {
			if first < 0 || first >= blocks {
				refusesNew(t, blocks, first, 0, 0)
				continue
			}
			s := newSpace(t, blocks, first, 0, 0)
			if s.Free() != blocks-first || s.Used(first-1) != (first > 0) || s.Used(first) || s.Used(blocks-1) {
				t.Errorf("New(%d, %d): %d are free", blocks, first, s.Free())
			}
		}
	}
}

func TestNewRefusesFirsts(t *testing.T) {
	for _, blocks := range counts {
		for _, first := range notBlocks(blocks) {
			refusesNew(t, blocks, first, 0, 0)
			refusesNew(t, blocks, first, 3, 7)
		}
	}
}

func TestOfANewSpaceAllFromTheFirstOnesOnAreFree(t *testing.T) {
	for _, shape := range shapes {
		twinOf(shape[0], shape[1], 5, 9).looks(t, newSpace(t, shape[0], shape[1], 5, 9))
	}
}

func TestNewOfGenerations(t *testing.T) {
	for _, x := range [][2]uint64{
		{0, 0}, {0, 1}, {1, 1}, {1, 2}, {5, 7}, {6, 7}, {7, 7}, {0, mostGen}, {mostGen - 1, mostGen}, {mostGen, mostGen}, {mostGen - 1, mostGen - 1},
		{topBit - 1, topBit}, {topBit, topBit}, {1, topBit}, {1, 1 << 32}, {1<<32 - 1, 1 << 32}, {1 << 32, 1 << 32}, {9, 1<<32 + 8},
	} {
		if s := newSpace(t, 4, 1, x[0], x[1]); s.Gen() != x[0] {
			t.Errorf("New of %d, %d: Gen = %d", x[0], x[1], s.Gen())
		}
	}
}

func TestNewRefusesGenerations(t *testing.T) {
	for _, x := range [][2]uint64{
		{1, 0}, {2, 1}, {8, 7}, {9, 7}, {mostGen, 0}, {mostGen, mostGen - 1}, {topBit, topBit - 1}, {topBit, 1}, {1<<32 + 1, 1 << 32}, {1 << 32, 1<<32 - 1}, {1 << 32, 1}, {1<<32 + 3, 5},
	} {
		for _, shape := range shapes {
			refusesNew(t, shape[0], shape[1], x[0], x[1])
		}
		refusesNew(t, 0, 0, x[0], x[1])
		refusesNew(t, 4, 4, x[0], x[1])
		refusesNew(t, 4, -1, x[0], x[1])
	}
}

// TestTwoSpaces: P2: they have nothing to do with one another.
func TestTwoSpaces(t *testing.T) {
	for _, shape := range shapes {
		s, w := both(t, shape[0], shape[1])
		other, otherTwin := both(t, shape[0], shape[1])
		w.doesAll(t, s, []call{{kind: take}, {kind: take}, {use, shape[0] - 1}, {give, shape[1]}, {kind: step}})
		otherTwin.looks(t, other)
		otherTwin.doesAll(t, other, []call{{kind: undo}, {kind: settle}, {kind: undo}})
		otherTwin.looks(t, other)
		w.looks(t, s)
		w.does(t, s, call{kind: settle})
		w.looks(t, s)
		otherTwin.does(t, other, call{kind: take})
		otherTwin.looks(t, other)
		twinOf(shape[0], shape[1], 5, 9).looks(t, newSpace(t, shape[0], shape[1], 5, 9))
	}
}

// A nil space.

func TestANilSpace(t *testing.T) {
	var s *Space
	for range 2 { // nothing is done by the first calls
		for _, block := range append(notBlocks(1), 0, 1, 63, 64, 4095) {
			if e := s.Use(block); e != api.ErrNil {
				t.Errorf("Use(%d): %v", block, e)
			}
			if e := s.Give(block); e != api.ErrNil {
				t.Errorf("Give(%d): %v", block, e)
			}
			if s.Used(block) {
				t.Errorf("Used(%d) = true", block)
			}
		}
		if block, e := s.Take(); block != 0 || e != api.ErrNil {
			t.Errorf("Take() = %d, %v", block, e)
		}
		if gen, e := s.Step(); gen != 0 || e != api.ErrNil {
			t.Errorf("Step() = %d, %v", gen, e)
		}
		if s.Free() != 0 || s.Gen() != 0 {
			t.Errorf("%d are free, the generation is %d", s.Free(), s.Gen())
		}
		s.Settle()
		s.Undo()
	}
}

// TestTheZeroSpace: nobody is told to make one, but it is a space of no blocks, and so it panics no more than others.
func TestTheZeroSpace(t *testing.T) {
	s, w := new(Space), twinOf(0, 0, 0, 0)
	for range 2 {
		w.doesAll(t, s, []call{{kind: take}, {use, 0}, {give, 0}, {use, -1}, {give, 4095}, {kind: step}, {kind: settle}, {kind: undo}})
		w.looks(t, s)
	}
}

// P10.1: Use, Used and Free.

// TestUseOfEachBlock: once OK, and then no more; no other block is touched.
func TestUseOfEachBlock(t *testing.T) {
	for _, shape := range shapes {
		blocks, first := shape[0], shape[1]
		s := newSpace(t, blocks, first, 5, 9)
		for block := first; block < blocks; block++ {
			isError(t, "Use of a free block", s.Use(block), api.OK)
			isError(t, "Use of a used block", s.Use(block), api.ErrThere)
			if !s.Used(block) || block+1 < blocks && s.Used(block+1) || s.Free() != blocks-block-1 {
				t.Fatalf("of %d, %d: behind the Use of %d %d are free", blocks, first, block, s.Free())
			}
		}
		_, e := s.Take()
		isError(t, "Take when all are used", e, api.ErrFull)
	}
}

// TestUseOfOneBlock: each block alone, which others are free told by a twin; Undo and Settle leave it, as it was neither taken nor given.
func TestUseOfOneBlock(t *testing.T) {
	for _, shape := range shapes {
		blocks, first := shape[0], shape[1]
		for _, block := range []int{first, first + 1, (first + blocks) / 2, blocks - 2, blocks - 1} {
			if block < first || block >= blocks {
				continue
			}
			for _, end := range []int{settle, undo} {
				s, w := both(t, blocks, first, call{use, block})
				w.looks(t, s)
				w.doesAll(t, s, []call{{kind: end}, {use, block}, {kind: end}})
				w.looks(t, s)
				if !s.Used(block) {
					t.Errorf("of %d, %d: the Use of %d was undone", blocks, first, block)
				}
			}
		}
	}
}

// TestUseAndGiveOfWhatThereIsNot: ErrRange, and nothing is changed.
func TestUseAndGiveOfWhatThereIsNot(t *testing.T) {
	for _, shape := range shapes {
		s, w := both(t, shape[0], shape[1], call{kind: take}, call{give, shape[1]})
		for _, block := range notBlocks(shape[0]) {
			isError(t, "Use of what there isn't", s.Use(block), api.ErrRange)
			isError(t, "Give of what there isn't", s.Give(block), api.ErrRange)
		}
		for block := range shape[1] {
			isError(t, "Use below the first", s.Use(block), api.ErrRange)
			isError(t, "Give below the first", s.Give(block), api.ErrRange)
		}
		w.looks(t, s)
		w.does(t, s, call{kind: settle})
		w.looks(t, s)
	}
}

// TestBelowTheFirstBlocksNothingEverGetsFree: they are used all along, whatever is called of them.
func TestBelowTheFirstBlocksNothingEverGetsFree(t *testing.T) {
	s, w := both(t, 70, 66)
	for range 3 {
		for block := range 66 {
			w.doesAll(t, s, []call{{use, block}, {give, block}, {kind: take}, {kind: settle}, {give, block}, {kind: undo}})
			w.looks(t, s)
			if !s.Used(block) {
				t.Fatalf("%d is free", block)
			}
		}
	}
}

func isError(t *testing.T, what string, e, want api.Errno) {
	t.Helper()
	if e != want {
		t.Fatalf("%s: %v, not %v", what, e, want)
	}
}

// state is what a block of a space may be, and how it gets so: by calls of it behind a Use of all free blocks below it, so that Take takes it.
type state struct {
	name            string
	kinds           []int
	used            bool
	use, give       api.Errno
	settled, undone bool // is it used behind a Settle, behind an Undo?
}

var states = []state{
	{"free", nil, false, api.OK, api.ErrNone, false, false},
	{"used", []int{use}, true, api.ErrThere, api.OK, true, true},
	{"taken", []int{take}, true, api.ErrThere, api.OK, true, false},
	{"used, given", []int{use, give}, true, api.ErrThere, api.ErrThere, false, true},
	{"taken, given", []int{take, give}, true, api.ErrThere, api.ErrThere, false, false},
	{"used, settled", []int{use, settle}, true, api.ErrThere, api.OK, true, true},
	{"used, undone", []int{use, undo}, true, api.ErrThere, api.OK, true, true},
	{"taken, settled", []int{take, settle}, true, api.ErrThere, api.OK, true, true},
	{"taken, undone", []int{take, undo}, false, api.OK, api.ErrNone, false, false},
	{"used, given, settled", []int{use, give, settle}, false, api.OK, api.ErrNone, false, false},
	{"used, given, undone", []int{use, give, undo}, true, api.ErrThere, api.OK, true, true},
	{"taken, given, settled", []int{take, give, settle}, false, api.OK, api.ErrNone, false, false},
	{"taken, given, undone", []int{take, give, undo}, false, api.OK, api.ErrNone, false, false},
	{"taken, settled, given", []int{take, settle, give}, true, api.ErrThere, api.ErrThere, false, true},
	{"taken, settled, given, undone", []int{take, settle, give, undo}, true, api.ErrThere, api.OK, true, true},
	{"taken, given, settled, used", []int{take, give, settle, use}, true, api.ErrThere, api.OK, true, true},
	{"taken, given, settled, taken", []int{take, give, settle, take}, true, api.ErrThere, api.OK, true, false},
	{"taken, undone, used", []int{take, undo, use}, true, api.ErrThere, api.OK, true, true},
	{"taken, undone, taken", []int{take, undo, take}, true, api.ErrThere, api.OK, true, false},
	{"taken, given, undone, used", []int{take, give, undo, use}, true, api.ErrThere, api.OK, true, true},
	{"used, given, undone, given", []int{use, give, undo, give}, true, api.ErrThere, api.ErrThere, false, true},
	{"used, given, settled, taken", []int{use, give, settle, take}, true, api.ErrThere, api.OK, true, false},
}

// brought: a space one of whose blocks is so.
func (x state) brought(t *testing.T, blocks, first, block int) *Space {
	t.Helper()
	s := newSpace(t, blocks, first, 5, 9)
	for below := first; below < block; below++ {
		isError(t, "Use", s.Use(below), api.OK)
	}
	for _, kind := range x.kinds {
		switch kind {
		case use:
			isError(t, x.name, s.Use(block), api.OK)
		case give:
			isError(t, x.name, s.Give(block), api.OK)
		case settle:
			s.Settle()
		case undo:
			s.Undo()
		default:
			if k, e := s.Take(); k != block || e != api.OK {
				t.Fatalf("%s: Take() = %d, %v, not %d", x.name, k, e, block)
			}
		}
	}
	x.isSo(t, s, block, x.used)
	return s
}

// isSo: the block is used or free, as told; all below it are used, all behind it free.
func (x state) isSo(t *testing.T, s *Space, block int, used bool) {
	t.Helper()
	behind := s.free.Size() - block - 1
	if !used {
		behind++
	}
	if s.Used(block) != used || s.Free() != behind {
		t.Fatalf("%s: Used(%d) = %v, %d are free, not %d", x.name, block, s.Used(block), s.Free(), behind)
	}
}

// eachState goes through the states of some blocks of spaces of some shapes.
func eachState(t *testing.T, check func(x state, bring func() *Space, block int)) {
	t.Helper()
	for _, shape := range shapes {
		blocks, first := shape[0], shape[1]
		for _, block := range []int{first, first + 1, blocks - 2, blocks - 1} {
			for _, x := range states {
				if block >= first && block < blocks {
					check(x, func() *Space { return x.brought(t, blocks, first, block) }, block)
				}
			}
		}
	}
}

// P10.1, P10.2: what Use and Give answer of a block in each state; a refused one, told over and over, changes nothing, also nothing that a Settle or an Undo behind it would tell.
func TestUseInEachState(t *testing.T) {
	eachState(t, func(x state, bring func() *Space, block int) {
		isError(t, x.name+": Use", bring().Use(block), x.use)
		if x.use == api.OK {
			return
		}
		for _, end := range []int{settle, undo} {
			s := bring()
			for range 3 {
				isError(t, x.name+": Use", s.Use(block), x.use)
				x.isSo(t, s, block, x.used)
			}
			isError(t, x.name+": Give behind a refused Use", s.Give(block), x.give)
			x.ends(t, bring(), s, block, end)
		}
	})
}

func TestGiveInEachState(t *testing.T) {
	eachState(t, func(x state, bring func() *Space, block int) {
		isError(t, x.name+": Give", bring().Give(block), x.give)
		for _, end := range []int{settle, undo} {
			s := bring()
			for _, want := range []api.Errno{x.give, x.again(), x.again()} {
				isError(t, x.name+": Give", s.Give(block), want)
				x.isSo(t, s, block, x.used) // a block that was given isn't free yet
			}
			x.ends(t, bring(), s, block, end)
		}
	})
}

// again: what a Give answers behind a Give.
func (x state) again() api.Errno {
	if x.give == api.OK {
		return api.ErrThere
	}
	return x.give
}

// ends: a space as it was brought, and one that was called in vain (or given the block), behind a Settle or an Undo, and once more behind both.
func (x state) ends(t *testing.T, brought, called *Space, block, end int) {
	t.Helper()
	if end == settle {
		brought.Settle()
		called.Settle()
		x.isSo(t, brought, block, x.settled)
		x.isSo(t, called, block, false) // a Give was OK, or the block was given already, or it is free
		return
	}
	brought.Undo()
	called.Undo()
	for range 2 {
		x.isSo(t, brought, block, x.undone)
		x.isSo(t, called, block, x.undone)
		brought.Settle()
		called.Settle()
		brought.Undo()
		called.Undo()
	}
}
