package table

import (
	"encoding/binary"
	"slices"
	"testing"

	"treenail/api"
)

// twin is a table as the chapter says it, kept otherwise than the program does: each block's place stands beside the block, and the bytes grow with each move.
type twin struct {
	places []int
	spares int
	tail   []byte
}

func twinOf(blocks, spares int) *twin {
	w := &twin{spares: spares}
	for block := range blocks {
		w.places = append(w.places, block)
	}
	return w
}

func (w *twin) moves() int { return len(w.tail) / 2 }

// move: of a block that there is, with a spare left.
func (w *twin) move(block int) {
	w.places[block] = len(w.places) + w.moves()
	w.tail = binary.LittleEndian.AppendUint16(w.tail, uint16(block))
}

func (w *twin) copied() *twin {
	return &twin{slices.Clone(w.places), w.spares, slices.Clone(w.tail)}
}

func (w *twin) text() string {
	return string(binary.LittleEndian.AppendUint64(nil, uint64(w.moves()))) + string(w.tail)
}

func (w *twin) moved() []int {
	var list []int
	for block, place := range w.places {
		if place != block {
			list = append(list, block)
		}
	}
	return list
}

// looks: every call that leaves it as it is answers of the table what the chapter says.
func (w *twin) looks(t *testing.T, x Table) {
	t.Helper()
	if x.Blocks() != len(w.places) || x.Gen() != uint64(w.moves()) || x.Left() != w.spares-w.moves() {
		t.Errorf("%d blocks, the generation %d, %d left, not %d, %d, %d", x.Blocks(), x.Gen(), x.Left(), len(w.places), w.moves(), w.spares-w.moves())
	}
	if list := x.Moved(); !slices.Equal(list, w.moved()) {
		t.Errorf("%v were moved, not %v", list, w.moved())
	}
	if s := x.Text(); s != w.text() {
		t.Errorf("the bytes %q, not %q", s, w.text())
	}
	for block, place := range w.places {
		if at, e := x.At(block); at != place || e != api.OK {
			t.Errorf("%d is at %d, %v, not at %d", block, at, e, place)
		}
	}
	for _, block := range []int{-1, len(w.places)} {
		isNowhere(t, x, block)
	}
	standApart(t, x)
}

func isNowhere(t *testing.T, x Table, block int) {
	t.Helper()
	if at, e := x.At(block); at != 0 || e != api.ErrRange {
		t.Errorf("of %d blocks: At(%d) = %d, %v", x.Blocks(), block, at, e)
	}
}

// standApart: P6.4: no two blocks are at one place, and each place is one of the blocks' or of the spares'.
func standApart(t *testing.T, x Table) {
	t.Helper()
	places := x.Blocks() + x.Left() + int(x.Gen())
	taken := make([]bool, places)
	for block := range x.Blocks() {
		at, _ := x.At(block)
		if at < 0 || at >= places || taken[at] {
			t.Errorf("%d of %d is at %d, where there is no place, or another block", block, x.Blocks(), at)
			return
		}
		taken[at] = true
	}
}

// TestBesideATwin: a walk through moves of all kinds of blocks, at many counts; what the tables on the way were is asked at the end once more.
func TestBesideATwin(t *testing.T) {
	step := uint64(1)
	next := func(below int) int {
		step = step*6364136223846793005 + 1442695040888963407
		return int(step >> 33 % uint64(below))
	}
	for _, blocks := range []int{1, 2, 3, 10, 255, 256, 257, 4096} {
		for _, spares := range []int{0, 1, 2, 31, 32} {
			x, w := newTable(t, blocks, spares), twinOf(blocks, spares)
			tables, twins := []Table{x}, []*twin{w.copied()}
			for range spares {
				block := next(min(blocks, 1+next(blocks)))
				x = moves(t, x, block)
				w.move(block)
				tables, twins = append(tables, x), append(twins, w.copied())
			}
			refusesMove(t, x, next(blocks), api.ErrSpares)
			for k := range tables {
				twins[k].looks(t, tables[k])
				twins[k].looks(t, parses(t, twins[k].text(), blocks, spares))
			}
		}
	}
}
