package table

import (
	"encoding/binary"
	"math"
	"slices"
	"strings"
	"testing"

	"treenail/api"
)

// Numbers of which the last 8, 16 or 32 bits alone are some that may be.
const (
	wide8  = 1 << 8
	wide16 = 1 << 16
	wide32 = 1 << 32
)

var (
	counts    = []int{1, 2, 3, 10, 255, 256, 257, 300, 4095, 4096}
	notCounts = []int{0, -1, -2, -10, -4096, 4097, 4098, 8192, wide16, wide16 + 10, wide32, wide32 + 10, -wide32 + 10, math.MinInt, math.MinInt + 10, math.MaxInt - 1, math.MaxInt}
	rests     = []int{0, 1, 2, 3, 31, 32}
	notRests  = []int{-1, -2, -32, 33, 34, 64, 4096, wide8, wide8 + 2, wide16 + 2, wide32, wide32 + 2, -wide32 + 2, math.MinInt, math.MinInt + 2, math.MaxInt - 1, math.MaxInt}
	notInts   = []int{-2, -3, -300, 5000, 65535, wide16, wide16 + 3, wide32, wide32 + 3, -wide32, -wide32 + 3, math.MinInt, math.MinInt + 3, math.MaxInt - 1, math.MaxInt}
	noughts   = strings.Repeat("\x00", 8)
)

func newTable(t *testing.T, blocks, spares int) Table {
	t.Helper()
	x, e := New(blocks, spares)
	if e != api.OK {
		t.Fatalf("New(%d, %d): %v", blocks, spares, e)
	}
	return x
}

// moves: the table in which these were moved, in order.
func moves(t *testing.T, x Table, blocks ...int) Table {
	t.Helper()
	for _, block := range blocks {
		next, e := x.Move(block)
		if e != api.OK {
			t.Fatalf("Move(%d) behind %v, of %d blocks, with %d left: %v", block, x.Moved(), x.Blocks(), x.Left(), e)
		}
		x = next
	}
	return x
}

func parses(t *testing.T, s string, blocks, spares int) Table {
	t.Helper()
	x, e := Parse(s, blocks, spares)
	if e != api.OK {
		t.Fatalf("Parse(%q, %d, %d): %v", s, blocks, spares, e)
	}
	return x
}

func refusesNew(t *testing.T, blocks, spares int) {
	t.Helper()
	if x, e := New(blocks, spares); x != (Table{}) || e != api.ErrArg {
		t.Errorf("New(%d, %d) = %v, %v", blocks, spares, x, e)
	}
}

func refusesMove(t *testing.T, x Table, block int, want api.Errno) {
	t.Helper()
	if y, e := x.Move(block); y != (Table{}) || e != want {
		t.Errorf("of %d blocks, with %d left: Move(%d) = %v, %v, not %v", x.Blocks(), x.Left(), block, y, e, want)
	}
}

func refusesParse(t *testing.T, s string, blocks, spares int, want api.Errno) {
	t.Helper()
	if x, e := Parse(s, blocks, spares); x != (Table{}) || e != want {
		t.Errorf("Parse(%q, %d, %d) = %v, %v, not %v", s, blocks, spares, x, e, want)
	}
}

func at(t *testing.T, x Table, block, want int) {
	t.Helper()
	if place, e := x.At(block); place != want || e != api.OK {
		t.Errorf("of %d blocks: At(%d) = %d, %v, not %d", x.Blocks(), block, place, e, want)
	}
}

// textOf: the bytes of a generation and of blocks, which needn't be a table's.
func textOf(gen uint64, blocks ...int) string {
	b := binary.LittleEndian.AppendUint64(nil, gen)
	for _, block := range blocks {
		b = binary.LittleEndian.AppendUint16(b, uint16(block))
	}
	return string(b)
}

// P6.1: New.

func TestNewOfEachCountThatMayBe(t *testing.T) {
	for _, blocks := range counts {
		for _, spares := range rests {
			twinOf(blocks, spares).looks(t, newTable(t, blocks, spares))
		}
	}
	for blocks := -50; blocks <= 4200; blocks++ {
		if blocks < 1 || blocks > 4096 {
			refusesNew(t, blocks, 2)
		} else if x := newTable(t, blocks, 2); x.Blocks() != blocks || x.Left() != 2 || x.Gen() != 0 {
			t.Errorf("New(%d, 2): %d blocks, %d left, the generation %d", blocks, x.Blocks(), x.Left(), x.Gen())
		}
	}
	for spares := -50; spares <= 100; spares++ {
		if spares < 0 || spares > 32 {
			refusesNew(t, 10, spares)
		} else if x := newTable(t, 10, spares); x.Blocks() != 10 || x.Left() != spares || x.Gen() != 0 {
			t.Errorf("New(10, %d): %d blocks, %d left, the generation %d", spares, x.Blocks(), x.Left(), x.Gen())
		}
	}
}

func TestNewRefusesCounts(t *testing.T) {
	for _, blocks := range notCounts {
		for _, spares := range append(rests, notRests...) {
			refusesNew(t, blocks, spares)
		}
	}
	for _, spares := range notRests {
		for _, blocks := range counts {
			refusesNew(t, blocks, spares)
		}
	}
}

// P6.1: At.

func TestAtOfWhatThereIsNot(t *testing.T) {
	for _, blocks := range counts {
		for _, x := range []Table{newTable(t, blocks, 0), newTable(t, blocks, 32), moves(t, newTable(t, blocks, 2), blocks-1, 0)} {
			for _, block := range append([]int{-1, -blocks, blocks, blocks + 1, blocks + 2, blocks + 31, blocks + 32}, notInts...) {
				isNowhere(t, x, block)
			}
		}
	}
}

func TestAtOfTheExample(t *testing.T) {
	x := moves(t, newTable(t, 10, 2), 3)
	at(t, x, 3, 10)
	at(t, x, 2, 2)
	at(t, x, 4, 4)
}

func TestAtIsTheLastSpareOfABlock(t *testing.T) {
	x := newTable(t, 300, 32)
	for k := range 32 {
		x = moves(t, x, 258)
		at(t, x, 258, 300+k)
	}
	x = moves(t, newTable(t, 300, 4), 7, 258, 7, 8)
	at(t, x, 7, 302)
	at(t, x, 258, 301)
	at(t, x, 8, 303)
	at(t, x, 0, 0)
}

// TestAtOfTheBlockNought: a spare that nothing was moved to yet looks like none of it.
func TestAtOfTheBlockNought(t *testing.T) {
	x := moves(t, newTable(t, 5, 6), 2, 3)
	at(t, x, 0, 0)
	x = moves(t, x, 0)
	at(t, x, 0, 7)
	x = moves(t, x, 2)
	at(t, x, 0, 7)
}

// P6.1: the zero table.

func TestTheZeroTable(t *testing.T) {
	var zero Table
	twinOf(0, 0).looks(t, zero)
	if len(zero.Moved()) != 0 || zero.Text() != noughts {
		t.Errorf("%v, %q", zero.Moved(), zero.Text())
	}
	for _, block := range append([]int{-1, 0, 1, 31, 32, 4095, 4096}, notInts...) {
		isNowhere(t, zero, block)
		refusesMove(t, zero, block, api.ErrRange)
	}
}

// P6.1: Moved.

func TestMovedRisesEachOnce(t *testing.T) {
	for _, c := range []struct{ blocks, want []int }{
		{nil, nil}, {[]int{0}, []int{0}}, {[]int{299}, []int{299}}, {[]int{7, 7}, []int{7}}, {[]int{258, 7}, []int{7, 258}}, {[]int{7, 258}, []int{7, 258}},
		{[]int{258, 7, 258}, []int{7, 258}}, {[]int{0, 0, 0}, []int{0}}, {[]int{5, 4, 3, 2, 1, 0}, []int{0, 1, 2, 3, 4, 5}},
		{[]int{256, 1, 255, 1, 257, 256}, []int{1, 255, 256, 257}}, {[]int{1, 2, 1, 2, 1, 2}, []int{1, 2}},
	} {
		if list := moves(t, newTable(t, 300, 6), c.blocks...).Moved(); !slices.Equal(list, c.want) {
			t.Errorf("of %v: %v, not %v", c.blocks, list, c.want)
		}
	}
}

func TestChangesOfTheListChangeNothing(t *testing.T) {
	x, w := moves(t, newTable(t, 10, 8), 5, 3, 9, 3), twinOf(10, 8)
	for _, block := range []int{5, 3, 9, 3} {
		w.move(block)
	}
	one, other := x.Moved(), x.Moved()
	for k := range one {
		one[k] = 1 + k
	}
	clear(one[:cap(one)])
	one = append(one, 4, 4, 4, 4, 4)
	if !slices.Equal(other, []int{3, 5, 9}) || len(one) != 8 {
		t.Errorf("the other list is %v, of %d", other, len(one))
	}
	w.looks(t, x)
	w.move(6)
	w.looks(t, moves(t, x, 6))
}

// P6.2

func TestMoveOfEachBlock(t *testing.T) {
	for _, blocks := range []int{1, 2, 10, 300, 4096} {
		x := newTable(t, blocks, 1)
		for block := range blocks {
			y := moves(t, x, block)
			at(t, y, block, blocks)
			if list := y.Moved(); !slices.Equal(list, []int{block}) || y.Left() != 0 || y.Gen() != 1 || y.Blocks() != blocks {
				t.Fatalf("Move(%d) of %d: %v, %d left, the generation %d", block, blocks, list, y.Left(), y.Gen())
			}
		}
	}
}

func TestMoveOfSeveralAndAgain(t *testing.T) {
	for _, list := range [][]int{{3}, {3, 3}, {0, 9}, {9, 0}, {3, 4, 3}, {3, 3, 4, 4, 3, 3}, {0, 0, 0}, {0, 1, 2, 3, 4, 5, 6, 7, 8, 9}} {
		x, w := newTable(t, 10, len(list)), twinOf(10, len(list))
		for k, block := range list {
			x = moves(t, x, block)
			w.move(block)
			w.looks(t, x)
			if x.Gen() != uint64(1+k) || x.Left() != len(list)-1-k {
				t.Errorf("behind %d moves: the generation %d, %d left", 1+k, x.Gen(), x.Left())
			}
		}
	}
}

func TestMoveUpToTheLastSpare(t *testing.T) {
	for spares := range 33 {
		x, w := newTable(t, 40, spares), twinOf(40, spares)
		for k := range spares {
			x = moves(t, x, 39-k)
			w.move(39 - k)
		}
		for _, block := range []int{0, 39, 20} {
			refusesMove(t, x, block, api.ErrSpares)
		}
		w.looks(t, x)
	}
}

// TestMovesErrorsInOrder: a block that there isn't is told ahead of a spare that there isn't.
func TestMovesErrorsInOrder(t *testing.T) {
	for _, blocks := range []int{1, 2, 10, 300, 4096} {
		full := moves(t, newTable(t, blocks, 2), 0, blocks-1)
		for _, block := range append([]int{-1, -blocks, blocks, blocks + 1, blocks + 2}, notInts...) {
			refusesMove(t, newTable(t, blocks, 0), block, api.ErrRange)
			refusesMove(t, newTable(t, blocks, 2), block, api.ErrRange)
			refusesMove(t, moves(t, newTable(t, blocks, 2), 0), block, api.ErrRange)
			refusesMove(t, full, block, api.ErrRange)
		}
		for _, block := range []int{0, blocks - 1, blocks / 2} {
			refusesMove(t, newTable(t, blocks, 0), block, api.ErrSpares)
			refusesMove(t, full, block, api.ErrSpares)
		}
	}
}

// TestMoveLeavesTheTableAsItWas: rule 3's refused moves, too.
func TestMoveLeavesTheTableAsItWas(t *testing.T) {
	x, w := newTable(t, 10, 4), twinOf(10, 4)
	for _, block := range []int{3, 3, 0, 9} {
		before := w.copied()
		y := moves(t, x, block)
		refusesMove(t, x, -1, api.ErrRange)
		refusesMove(t, x, 10, api.ErrRange)
		before.looks(t, x)
		w.move(block)
		w.looks(t, y)
		x = y
	}
	refusesMove(t, x, 3, api.ErrSpares)
	w.looks(t, x)
}

// TestTwoTablesOfOne: each is moved on by itself, at each number of moves ahead of that, so that no memory of them is the same.
func TestTwoTablesOfOne(t *testing.T) {
	for ahead := range 31 {
		x, w := newTable(t, 40, 32), twinOf(40, 32)
		for k := range ahead {
			x = moves(t, x, k)
			w.move(k)
		}
		v := w.copied()
		y, z := moves(t, x, 33), moves(t, x, 34)
		w.move(33)
		v.move(34)
		w.looks(t, y)
		v.looks(t, z)
		y, z = moves(t, y, 35), moves(t, z, 36)
		w.move(35)
		v.move(36)
		w.looks(t, y)
		v.looks(t, z)
		if x.Gen() != uint64(ahead) || len(x.Moved()) != ahead {
			t.Errorf("the first one is of the generation %d, with %v", x.Gen(), x.Moved())
		}
	}
}

// TestTablesThatWereMadeApart: P2.
func TestTablesThatWereMadeApart(t *testing.T) {
	x, y := newTable(t, 10, 2), newTable(t, 10, 2)
	x = moves(t, x, 3)
	twinOf(10, 2).looks(t, y)
	u, v := parses(t, x.Text(), 10, 2), parses(t, x.Text(), 10, 2)
	moves(t, u, 4)
	if u != x || v != x {
		t.Errorf("%v, %v, not %v", u, v, x)
	}
}

// P6.3: the bytes.

func TestTextByteByByte(t *testing.T) {
	for _, c := range []struct {
		blocks []int
		s      string
	}{
		{nil, "\x00\x00\x00\x00\x00\x00\x00\x00"},
		{[]int{0}, "\x01\x00\x00\x00\x00\x00\x00\x00\x00\x00"},
		{[]int{1}, "\x01\x00\x00\x00\x00\x00\x00\x00\x01\x00"},
		{[]int{4095}, "\x01\x00\x00\x00\x00\x00\x00\x00\xff\x0f"},
		{[]int{258, 7, 258}, "\x03\x00\x00\x00\x00\x00\x00\x00\x02\x01\x07\x00\x02\x01"},
		{[]int{256, 255}, "\x02\x00\x00\x00\x00\x00\x00\x00\x00\x01\xff\x00"},
		{[]int{5, 5, 4}, "\x03\x00\x00\x00\x00\x00\x00\x00\x05\x00\x05\x00\x04\x00"},
	} {
		x := moves(t, newTable(t, 4096, 3), c.blocks...)
		if s := x.Text(); s != c.s {
			t.Errorf("of %v: %q, not %q", c.blocks, s, c.s)
		}
		if y := parses(t, c.s, 4096, 3); y != x {
			t.Errorf("of %q: %v, not %v", c.s, y, x)
		}
	}
	x := moves(t, newTable(t, 4096, 32), slices.Repeat([]int{0x0a0b}, 32)...)
	if s := x.Text(); s != "\x20\x00\x00\x00\x00\x00\x00\x00"+strings.Repeat("\x0b\x0a", 32) {
		t.Errorf("with all spares used: %q", s)
	}
}

// P6.3: Parse.

func TestParseRefusesCountsAheadOfBytes(t *testing.T) {
	for _, s := range []string{noughts, textOf(2, 0, 0), "", "z", textOf(1), textOf(1, 65535), strings.Repeat("z", 1000)} {
		for _, blocks := range notCounts {
			for _, spares := range append(rests, notRests...) {
				refusesParse(t, s, blocks, spares, api.ErrArg)
			}
		}
		for _, spares := range notRests {
			for _, blocks := range counts {
				refusesParse(t, s, blocks, spares, api.ErrArg)
			}
		}
	}
}

func TestParseOfNoMoves(t *testing.T) {
	for _, blocks := range counts {
		for _, spares := range rests {
			x := parses(t, noughts, blocks, spares)
			twinOf(blocks, spares).looks(t, x)
			if x != newTable(t, blocks, spares) {
				t.Errorf("of %d blocks and %d spares: %v", blocks, spares, x)
			}
		}
	}
}

// texts: those of tables of 300 blocks with up to 32 spares used.
func texts() []string {
	all := []string{textOf(1, 0), textOf(1, 299), textOf(2, 7, 7), textOf(3, 258, 7, 258)}
	for n := range 33 {
		var list []int
		for k := range n {
			list = append(list, (k*k*37+n)%300)
		}
		all = append(all, textOf(uint64(n), list...))
	}
	return all
}

func TestParseOfText(t *testing.T) {
	for _, s := range texts() {
		x := parses(t, s, 300, 32)
		if x.Text() != s {
			t.Errorf("%q of %q", x.Text(), s)
		}
		n := (len(s) - 8) / 2
		if y := parses(t, s, 300, n); y.Left() != 0 || y.Text() != s || y.Gen() != uint64(n) {
			t.Errorf("with %d spares: %d left, %q of %q", n, y.Left(), y.Text(), s)
		}
	}
}

func TestParseOfTextsCut(t *testing.T) {
	for _, s := range texts() {
		for n := range s {
			refusesParse(t, s[:n], 300, 32, api.ErrForm)
		}
	}
}

func TestParseOfTextsMadeLonger(t *testing.T) {
	for _, s := range texts() {
		for n := 1; n <= 80; n++ {
			refusesParse(t, s+strings.Repeat("\x00", n), 300, 32, api.ErrForm)
			refusesParse(t, s+strings.Repeat("\x01", n), 300, 32, api.ErrForm)
			refusesParse(t, s+strings.Repeat("\xff", n), 300, 32, api.ErrForm)
		}
		refusesParse(t, s+strings.Repeat("\x00", wide16), 300, 32, api.ErrForm)
		refusesParse(t, s+s, 300, 32, api.ErrForm)
	}
}

// TestParseOfTextsThatAreNoWholeNumberOfBlocks: whatever the generation says of them.
func TestParseOfTextsThatAreNoWholeNumberOfBlocks(t *testing.T) {
	for n := range 34 {
		for gen := range uint64(35) {
			refusesParse(t, textOf(gen, make([]int, n)...)+"\x00", 300, 32, api.ErrForm)
		}
	}
}

func TestParseOfAnotherGeneration(t *testing.T) {
	for n := range 33 {
		list := slices.Repeat([]int{1}, n)
		for gen := range uint64(300) {
			if gen == uint64(n) {
				parses(t, textOf(gen, list...), 300, 32)
				continue
			}
			refusesParse(t, textOf(gen, list...), 300, 32, api.ErrForm)
		}
		for bit := range 64 {
			refusesParse(t, textOf(uint64(n)^1<<bit, list...), 300, 32, api.ErrForm)
		}
		for _, gen := range []uint64{math.MaxUint64, -uint64(n) - 1, 1<<63 + uint64(n), 1<<63 - 1} {
			refusesParse(t, textOf(gen, list...), 300, 32, api.ErrForm)
		}
	}
}

func TestParseOfBlocksThatThereAreNot(t *testing.T) {
	for _, blocks := range []int{1, 2, 10, 256, 257, 300, 4095, 4096} {
		for _, block := range []int{blocks, blocks + 1, blocks + 2, blocks + 31, blocks + 256, 4096, 32768, 65535} {
			refusesParse(t, textOf(1, block), blocks, 32, api.ErrForm)
			refusesParse(t, textOf(3, block, 0, 0), blocks, 32, api.ErrForm)
			refusesParse(t, textOf(3, 0, block, 0), blocks, 32, api.ErrForm)
			refusesParse(t, textOf(3, 0, 0, block), blocks, 3, api.ErrForm)
		}
		x := parses(t, textOf(3, 0, blocks-1, 0), blocks, 3)
		if y := moves(t, newTable(t, blocks, 3), 0, blocks-1, 0); x != y {
			t.Errorf("of %d: %v, not %v", blocks, x, y)
		}
	}
	for block := range wide16 {
		if _, e := Parse(textOf(1, block), 300, 1); (e == api.OK) != (block < 300) || e != api.OK && e != api.ErrForm {
			t.Fatalf("the block %d of 300: %v", block, e)
		}
	}
}

func TestParseOfMoreThanTheSpares(t *testing.T) {
	for spares := range 33 {
		for n := range 40 {
			s := textOf(uint64(n), make([]int, n)...)
			if n > spares {
				refusesParse(t, s, 300, spares, api.ErrForm)
				continue
			}
			if x := parses(t, s, 300, spares); x.Left() != spares-n {
				t.Errorf("%d of %d spares: %d left", n, spares, x.Left())
			}
		}
	}
	refusesParse(t, textOf(wide16, make([]int, wide16)...), 300, 32, api.ErrForm)
}

// TestParseByOtherCounts: the same bytes are another table's, where there are more blocks or spares.
func TestParseByOtherCounts(t *testing.T) {
	s := textOf(3, 258, 7, 258)
	for _, blocks := range []int{259, 300, 4096} {
		for _, spares := range []int{3, 4, 32} {
			w := twinOf(blocks, spares)
			for _, block := range []int{258, 7, 258} {
				w.move(block)
			}
			w.looks(t, parses(t, s, blocks, spares))
		}
	}
	refusesParse(t, s, 258, 3, api.ErrForm)
	refusesParse(t, s, 300, 2, api.ErrForm)
}

// P6.4

// TestParseOfTextIsTheTable: it goes on as the table does, too.
func TestParseOfTextIsTheTable(t *testing.T) {
	for _, blocks := range counts {
		for _, spares := range rests {
			x := newTable(t, blocks, spares)
			for k := range spares {
				x = moves(t, x, (k*k+3)%blocks)
				y := parses(t, x.Text(), blocks, spares)
				if y != x {
					t.Fatalf("%v, not %v", y, x)
				}
				if k+1 < spares && moves(t, y, blocks-1) != moves(t, x, blocks-1) {
					t.Fatalf("one moves on otherwise: %v, %v", y, x)
				}
			}
			if spares > 0 {
				refusesMove(t, parses(t, x.Text(), blocks, spares), 0, api.ErrSpares)
			}
		}
	}
}

// TestNoTwoBlocksAtOnePlace: of all ways of four moves of four blocks.
func TestNoTwoBlocksAtOnePlace(t *testing.T) {
	var walk func(x Table)
	walk = func(x Table) {
		standApart(t, x)
		for block := range x.Blocks() {
			if x.Left() > 0 {
				walk(moves(t, x, block))
			}
		}
	}
	walk(newTable(t, 4, 4))
}
