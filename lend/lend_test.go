package lend

import (
	"math"
	"slices"
	"strings"
	"testing"
)

// notWidths: what stands beside the widths on both sides, and the ends of the ints.
var notWidths = []int{0, 9, -1, -8, 16, 64, 256 + 1, math.MinInt, math.MaxInt}

// greatest: the greatest number that fits a width, written out so that the tests hang on no shift of the program's kind.
var greatest = map[int]uint64{
	1: 0xff,
	2: 0xffff,
	3: 0xff_ffff,
	4: 0xffff_ffff,
	5: 0xff_ffff_ffff,
	6: 0xffff_ffff_ffff,
	7: 0xff_ffff_ffff_ffff,
	8: 0xffff_ffff_ffff_ffff,
}

// withEach calls a function with widths of which one is none, at each place.
func withEach(call func(widths []int)) {
	for _, wrong := range notWidths {
		for place := range 3 {
			widths := []int{2, 8, 1}
			widths[place] = wrong
			call(widths)
		}
		call([]int{wrong})
	}
}

func refusesWrite(t *testing.T, widths []int, numbers []uint64) {
	t.Helper()
	if s, ok := Write(widths, numbers); s != "" || ok {
		t.Errorf("Write(%v, %v) = %q, %v", widths, numbers, s, ok)
	}
}

func refusesRead(t *testing.T, widths []int, s string) {
	t.Helper()
	if numbers, rest, ok := Read(widths, s); len(numbers) != 0 || rest != "" || ok {
		t.Errorf("Read(%v, %q) = %v, %q, %v", widths, s, numbers, rest, ok)
	}
}

// P1.1

func TestSizeAddsWidths(t *testing.T) {
	for _, x := range []struct {
		widths []int
		size   int
	}{
		{nil, 0},
		{[]int{}, 0},
		{[]int{1}, 1},
		{[]int{8}, 8},
		{[]int{1, 2, 3, 4, 5, 6, 7, 8}, 36},
		{[]int{8, 8, 8}, 24},
		{slices.Repeat([]int{7}, 1000), 7000},
	} {
		if size := Size(x.widths); size != x.size {
			t.Errorf("Size(%v) = %d, not %d", x.widths, size, x.size)
		}
	}
}

func TestSizeOfWrongWidths(t *testing.T) {
	withEach(func(widths []int) {
		if size := Size(widths); size != 0 {
			t.Errorf("Size(%v) = %d", widths, size)
		}
	})
	if size := Size([]int{1, -1, 1}); size != 0 {
		t.Errorf("a width below 0 is taken off: %d", size)
	}
}

func TestWriteOrder(t *testing.T) {
	for _, x := range []struct {
		widths  []int
		numbers []uint64
		s       string
	}{
		{nil, nil, ""},
		{[]int{}, nil, ""},
		{nil, []uint64{}, ""},
		{[]int{2, 1}, []uint64{2, 1}, "\x02\x00\x01"},
		{[]int{1, 2}, []uint64{2, 1}, "\x02\x01\x00"},
		{[]int{3}, []uint64{0x030201}, "\x01\x02\x03"},
		{[]int{8}, []uint64{0x0807060504030201}, "\x01\x02\x03\x04\x05\x06\x07\x08"},
		{[]int{4, 8, 1}, []uint64{1 << 31, 1 << 63, 0x80}, "\x00\x00\x00\x80\x00\x00\x00\x00\x00\x00\x00\x80\x80"},
	} {
		if s, ok := Write(x.widths, x.numbers); s != x.s || !ok {
			t.Errorf("Write(%v, %v) = %q, %v", x.widths, x.numbers, s, ok)
		}
	}
}

func TestWriteEdgesOfEachWidth(t *testing.T) {
	for width, most := range greatest {
		if s, ok := Write([]int{width}, []uint64{most}); s != strings.Repeat("\xff", width) || !ok {
			t.Errorf("the greatest number of the width %d: %q, %v", width, s, ok)
		}
		if s, ok := Write([]int{width}, []uint64{0}); s != strings.Repeat("\x00", width) || !ok {
			t.Errorf("0 in the width %d: %q, %v", width, s, ok)
		}
		if width == 8 {
			continue
		}
		for _, over := range []uint64{most + 1, most + 2, 1 << 63, math.MaxUint64} {
			refusesWrite(t, []int{width}, []uint64{over})
			refusesWrite(t, []int{width, 8}, []uint64{over, 0})
			refusesWrite(t, []int{8, width}, []uint64{0, over})
		}
	}
}

func TestWriteRefusesUnlikeLengths(t *testing.T) {
	refusesWrite(t, nil, []uint64{0})
	refusesWrite(t, []int{1}, nil)
	refusesWrite(t, []int{1, 1}, []uint64{1})
	refusesWrite(t, []int{1}, []uint64{1, 1})
}

func TestWriteRefusesWrongWidths(t *testing.T) {
	withEach(func(widths []int) {
		refusesWrite(t, widths, make([]uint64, len(widths)))
	})
}

// P1.2

func TestReadOrder(t *testing.T) {
	for _, x := range []struct {
		widths  []int
		s       string
		numbers []uint64
		rest    string
	}{
		{nil, "", nil, ""},
		{nil, "ab", nil, "ab"},
		{[]int{}, "ab", nil, "ab"},
		{[]int{2, 1}, "\x02\x00\x01", []uint64{2, 1}, ""},
		{[]int{1, 2}, "\x02\x01\x00zz", []uint64{2, 1}, "zz"},
		{[]int{3}, "\x01\x02\x03\x04", []uint64{0x030201}, "\x04"},
		{[]int{8}, "\x01\x02\x03\x04\x05\x06\x07\x08", []uint64{0x0807060504030201}, ""},
		{[]int{8}, "\x00\x00\x00\x00\x00\x00\x00\x80\x00", []uint64{1 << 63}, "\x00"},
	} {
		numbers, rest, ok := Read(x.widths, x.s)
		if !slices.Equal(numbers, x.numbers) || rest != x.rest || !ok {
			t.Errorf("Read(%v, %q) = %v, %q, %v", x.widths, x.s, numbers, rest, ok)
		}
	}
}

func TestReadEdgesOfEachWidth(t *testing.T) {
	for width, most := range greatest {
		full := strings.Repeat("\xff", width)
		for _, rest := range []string{"", "\x00", "\xff", "behind"} {
			numbers, left, ok := Read([]int{width}, full+rest)
			if !slices.Equal(numbers, []uint64{most}) || left != rest || !ok {
				t.Errorf("the width %d, with %q behind: %v, %q, %v", width, rest, numbers, left, ok)
			}
		}
		refusesRead(t, []int{width}, full[1:])
		refusesRead(t, []int{width}, "")
		refusesRead(t, []int{1, width}, full)
		refusesRead(t, []int{width, 1}, full)
	}
}

func TestReadRefusesWrongWidths(t *testing.T) {
	for _, s := range []string{"", "\x01", strings.Repeat("\x01", 512)} {
		withEach(func(widths []int) { refusesRead(t, widths, s) })
	}
}

// P1.3

func TestJoinEachLength(t *testing.T) {
	for n := range 256 {
		text := strings.Repeat("\xfe", n)
		s, ok := Join(text)
		if !ok || len(s) != n+1 || int(s[0]) != n || s[1:] != text {
			t.Errorf("Join of %d bytes: %q, %v", n, s, ok)
		}
	}
}

func TestJoinRefusesLongTexts(t *testing.T) {
	for _, n := range []int{256, 257, 511, 512, 65536} {
		if s, ok := Join(strings.Repeat("a", n)); s != "" || ok {
			t.Errorf("Join of %d bytes: %q, %v", n, s, ok)
		}
	}
}

func TestSplit(t *testing.T) {
	long := strings.Repeat("a", 255)
	for _, x := range []struct {
		s, text, rest string
		ok            bool
	}{
		{"", "", "", false},
		{"\x00", "", "", true},
		{"\x00\x00", "", "\x00", true},
		{"\x00abc", "", "abc", true},
		{"\x01", "", "", false},
		{"\x01a", "a", "", true},
		{"\x02a", "", "", false},
		{"\x02ab", "ab", "", true},
		{"\x02abc", "ab", "c", true},
		{"\x80" + long, long[:128], long[128:], true},
		{"\xff" + long[1:], "", "", false},
		{"\xff" + long, long, "", true},
		{"\xff" + long + "b", long, "b", true},
		{"\xff", "", "", false},
	} {
		text, rest, ok := Split(x.s)
		if text != x.text || rest != x.rest || ok != x.ok {
			t.Errorf("Split(%q) = %q, %q, %v", x.s, text, rest, ok)
		}
	}
}

// P1.4

// spread: numbers that differ in all their bytes, cut to a width.
func spread(k, width int) uint64 {
	return (uint64(k+1) * 0x9e3779b97f4a7c15) & greatest[width]
}

func TestReadOfWrite(t *testing.T) {
	for k := range 500 {
		var widths []int
		var numbers []uint64
		for i := range k % 10 {
			width := 1 + (k+3*i)%8
			widths = append(widths, width)
			numbers = append(numbers, spread(10*k+i, width))
		}
		s, ok := Write(widths, numbers)
		if !ok || len(s) != Size(widths) {
			t.Fatalf("Write(%v, %v) = %q, %v", widths, numbers, s, ok)
		}
		for _, rest := range []string{"", "\x00", "behind"} {
			back, left, ok := Read(widths, s+rest)
			if !slices.Equal(back, numbers) || left != rest || !ok {
				t.Fatalf("Read(%v, %q) = %v, %q, %v", widths, s+rest, back, left, ok)
			}
		}
	}
}

func TestSplitOfJoin(t *testing.T) {
	for n := range 256 {
		text := strings.Repeat("\x00\xffa", 85)[:n]
		s, ok := Join(text)
		if !ok {
			t.Fatalf("Join of %d bytes", n)
		}
		for _, rest := range []string{"", "\x00", "\x05behind", text} {
			back, left, ok := Split(s + rest)
			if back != text || left != rest || !ok {
				t.Fatalf("Split of %d bytes, with %q behind: %q, %q, %v", n, rest, back, left, ok)
			}
		}
	}
}

// The rules that hold everywhere: lists.

func TestListsStayAsTheyAre(t *testing.T) {
	widths, numbers := []int{1, 8, 2}, []uint64{1, math.MaxUint64, 2}
	s, _ := Write(widths, numbers)
	Read(widths, s)
	Size(widths)
	Write(widths[:2], numbers[:2])
	if !slices.Equal(widths, []int{1, 8, 2}) || !slices.Equal(numbers, []uint64{1, math.MaxUint64, 2}) {
		t.Errorf("changed: %v, %v", widths, numbers)
	}
}

func TestAnswersAreNewMemory(t *testing.T) {
	widths := []int{1, 1}
	first, _, _ := Read(widths, "ab")
	first[0] = 7
	second, _, _ := Read(widths, "cd")
	if !slices.Equal(first, []uint64{7, 'b'}) || !slices.Equal(second, []uint64{'c', 'd'}) {
		t.Errorf("%v, %v", first, second)
	}
}

func TestNothingBehindAListCounts(t *testing.T) {
	widths, numbers := []int{1, 9, 0}, []uint64{5, 256, 6}
	if size := Size(widths[:1]); size != 1 {
		t.Errorf("Size: %d", size)
	}
	if s, ok := Write(widths[:1], numbers[:1]); s != "\x05" || !ok {
		t.Errorf("Write: %q, %v", s, ok)
	}
	if l, rest, ok := Read(widths[:1], "\x05z"); !slices.Equal(l, []uint64{5}) || rest != "z" || !ok {
		t.Errorf("Read: %v, %q, %v", l, rest, ok)
	}
}
