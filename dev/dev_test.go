package dev

import (
	"math"
	"slices"
	"strings"
	"testing"

	"treenail/api"
)

const (
	sectors = 8
	size    = 128
)

// notSectors: what stands beside a small device's sectors on both sides, and the ends of the ints.
var notSectors = []int{-1, sectors, sectors + 1, -sectors, math.MinInt, math.MaxInt}

// noneth: the numbers of writes of which none is struck.
var noneth = []int{0, -1, math.MinInt}

func small(t *testing.T) *Device {
	t.Helper()
	d, e := New(Shape{sectors, size})
	if d == nil || e != api.OK {
		t.Fatalf("New: %v, %v", d, e)
	}
	return d
}

// page: a sector's bytes, all the same.
func page(c string) string { return strings.Repeat(c, size) }

var noughts = page("\x00")

func answers(t *testing.T, what string, got, want api.Errno) {
	t.Helper()
	if got != want {
		t.Errorf("%s: %v, not %v", what, got, want)
	}
}

// puts writes pages to sectors, which must be told as done.
func puts(t *testing.T, d *Device, letters string, to ...int) {
	t.Helper()
	for k, i := range to {
		answers(t, "Write", d.Write(i, page(letters[k:k+1])), api.OK)
	}
}

// flushed puts pages, which last then.
func flushed(t *testing.T, d *Device, letters string, to ...int) {
	t.Helper()
	puts(t, d, letters, to...)
	answers(t, "Flush", d.Flush(), api.OK)
}

func readsAs(t *testing.T, d *Device, i int, want string) {
	t.Helper()
	if s, e := d.Read(i); s != want || e != api.OK {
		t.Errorf("sector %d reads %q, %v, not %q", i, s, e, want)
	}
}

func refusesRead(t *testing.T, d *Device, i int, want api.Errno) {
	t.Helper()
	if s, e := d.Read(i); s != "" || e != want {
		t.Errorf("Read(%d) = %q, %v, not %v", i, s, e, want)
	}
}

func mediaIs(t *testing.T, d *Device, i int, want string) {
	t.Helper()
	if s := d.Media(i); s != want {
		t.Errorf("the media of sector %d: %q, not %q", i, s, want)
	}
}

// holds: does each sector read so, a letter each, and last so? (a dot for noughts)
func holds(t *testing.T, d *Device, reads, lasts string) {
	t.Helper()
	for i := range sectors {
		readsAs(t, d, i, letter(reads[i]))
		mediaIs(t, d, i, letter(lasts[i]))
	}
}

func letter(c byte) string {
	if c == '.' {
		return noughts
	}
	return page(string([]byte{c}))
}

func counted(t *testing.T, d *Device, reads, writes, flushes int) {
	t.Helper()
	if r, w, f := d.Count(); r != reads || w != writes || f != flushes {
		t.Errorf("Count: %d, %d, %d, not %d, %d, %d", r, w, f, reads, writes, flushes)
	}
}

// off cuts the power of a device, without a write that is done.
func off(t *testing.T, d *Device) {
	t.Helper()
	d.Fuse(1)
	answers(t, "Flush with a fuse", d.Flush(), api.ErrPower)
}

// P3.1: shapes.

func TestEachNumberOfSectors(t *testing.T) {
	for n := -10; n <= 4200; n++ {
		isRight(t, Shape{n, size}, n >= 8 && n <= 4096)
	}
	for _, n := range []int{math.MinInt, math.MaxInt, 1<<32 + 8} {
		isRight(t, Shape{n, size}, false)
	}
}

func TestEachSize(t *testing.T) {
	right := []int{128, 192, 256, 320, 384, 448, 512, 576, 640, 704, 768, 832, 896, 960, 1024}
	for n := -1100; n <= 1200; n++ {
		isRight(t, Shape{sectors, n}, slices.Contains(right, n))
	}
	for _, n := range []int{math.MinInt, math.MaxInt, math.MaxInt - 63, 1<<32 + 128} {
		isRight(t, Shape{sectors, n}, false)
	}
	isRight(t, Shape{}, false)
}

func isRight(t *testing.T, s Shape, want bool) {
	t.Helper()
	if s.Right() != want {
		t.Errorf("%v.Right() = %v", s, !want)
	}
	d, e := New(s)
	if !want && (d != nil || e != api.ErrArg) {
		t.Errorf("New(%v) = %v, %v", s, d, e)
	}
	if want && (d == nil || e != api.OK || d.Shape() != s) {
		t.Errorf("New(%v): %v, of the shape %v", s, e, d.Shape())
	}
}

func TestNewDeviceIsOfNoughts(t *testing.T) {
	for _, s := range []Shape{{8, 128}, {8, 1024}, {4096, 128}, {4096, 1024}, {9, 192}} {
		d, _ := New(s)
		if d.Dead() || d.Off() {
			t.Errorf("%v: gone %v, off %v", s, d.Dead(), d.Off())
		}
		counted(t, d, 0, 0, 0)
		for i := range s.Sectors {
			readsAs(t, d, i, strings.Repeat("\x00", s.Size))
			mediaIs(t, d, i, strings.Repeat("\x00", s.Size))
		}
		refusesRead(t, d, s.Sectors, api.ErrRange)
	}
}

func TestShapeStays(t *testing.T) {
	d, _ := New(Shape{9, 192})
	off(t, d)
	d.Kill()
	d.Stick(1)
	if d.Shape() != (Shape{9, 192}) {
		t.Errorf("Shape: %v", d.Shape())
	}
}

// P3.2: what is refused, and in which order.

func TestReadErrorsInOrder(t *testing.T) {
	d := small(t)
	d.Stick(3)
	off(t, d)
	d.Kill()
	for _, i := range []int{0, 3, -1, sectors} {
		refusesRead(t, d, i, api.ErrPower)
	}
	d.Crash(nil)
	for _, i := range []int{0, 3, -1, sectors} {
		refusesRead(t, d, i, api.ErrLost)
	}
	d = small(t)
	d.Stick(3)
	for _, i := range notSectors {
		d.Stick(i)
		refusesRead(t, d, i, api.ErrRange)
	}
	refusesRead(t, d, 3, api.ErrMedia)
	readsAs(t, d, 2, noughts)
	readsAs(t, d, 4, noughts)
	counted(t, d, 2, 0, 0)
}

func TestReadHeedsNoFuse(t *testing.T) {
	d := small(t)
	d.Fuse(1)
	for i := range sectors {
		readsAs(t, d, i, noughts)
	}
	if d.Off() {
		t.Error("a read is counted by a fuse")
	}
}

// wrongTexts: texts that aren't a sector's.
var wrongTexts = []string{"", "a", strings.Repeat("a", size-1), strings.Repeat("a", size+1), strings.Repeat("a", 2*size), strings.Repeat("a", 1<<20)}

func TestWriteErrorsInOrder(t *testing.T) {
	d := small(t)
	d.Stick(3)
	off(t, d)
	d.Kill()
	d.Fuse(1)
	eachWrite(t, d, api.ErrPower, api.ErrPower, api.ErrPower)
	d.Crash(nil)
	d.Fuse(1)
	eachWrite(t, d, api.ErrLost, api.ErrLost, api.ErrLost)
	d = small(t)
	d.Stick(3)
	d.Fuse(1)
	eachWrite(t, d, api.ErrRange, api.ErrArg, api.OK)
	answers(t, "a bad sector, with a fuse", d.Write(3, page("a")), api.ErrPower)
	d.Crash(nil)
	answers(t, "a bad sector", d.Write(3, page("a")), api.ErrMedia)
	puts(t, d, "a", 4)
	counted(t, d, 0, 1, 0)
}

// eachWrite tries each write that is wrong by itself (its sector, its text, both), and one that is right, unless its answer is OK: that one would be done.
func eachWrite(t *testing.T, d *Device, sector, text, right api.Errno) {
	t.Helper()
	for _, i := range notSectors {
		answers(t, "a sector that there isn't", d.Write(i, page("a")), sector)
		answers(t, "a sector that there isn't, a wrong text", d.Write(i, "a"), sector)
	}
	for _, s := range wrongTexts {
		answers(t, "a wrong text", d.Write(0, s), text)
		answers(t, "a wrong text, a bad sector", d.Write(3, s), text)
	}
	if right != api.OK {
		answers(t, "a right write", d.Write(0, page("a")), right)
	}
}

func TestFlushErrorsInOrder(t *testing.T) {
	d := small(t)
	off(t, d)
	d.Kill()
	answers(t, "off, gone", d.Flush(), api.ErrPower)
	d.Fuse(1)
	d.Crash(nil)
	d.Fuse(1)
	answers(t, "gone, with a fuse", d.Flush(), api.ErrLost)
	if d.Off() {
		t.Error("a flush of a gone device is counted by a fuse")
	}
	d = small(t)
	d.Fuse(1)
	answers(t, "with a fuse", d.Flush(), api.ErrPower)
	d.Crash(nil)
	answers(t, "right", d.Flush(), api.OK)
	counted(t, d, 0, 0, 1)
}

func TestRefusedWritesLeaveNothing(t *testing.T) {
	d := small(t)
	flushed(t, d, "abc", 0, 1, 3)
	d.Stick(3)
	d.Lose(1)
	d.Write(-1, page("x"))
	d.Write(1, "x")
	d.Write(3, page("x"))
	off(t, d)
	d.Write(0, page("x"))
	d.Crash([]Fate{Keep, Keep, Keep, Keep})
	for i, want := range map[int]string{0: "a", 1: "b", 3: "c"} {
		mediaIs(t, d, i, page(want))
	}
	counted(t, d, 0, 3, 1)
	puts(t, d, "x", 0)
	readsAs(t, d, 0, page("a"))
	puts(t, d, "y", 0)
	readsAs(t, d, 0, page("y"))
}

// P3.2: what a sector reads.

func TestReadAheadOfAFlushAndBehind(t *testing.T) {
	d := small(t)
	puts(t, d, "ab", 0, 7)
	holds(t, d, "a......b", "........")
	puts(t, d, "cd", 0, 0)
	holds(t, d, "d......b", "........")
	answers(t, "Flush", d.Flush(), api.OK)
	holds(t, d, "d......b", "d......b")
	puts(t, d, "e", 7)
	holds(t, d, "d......e", "d......b")
	answers(t, "Flush", d.Flush(), api.OK)
	answers(t, "Flush of nothing", d.Flush(), api.OK)
	holds(t, d, "d......e", "d......e")
	d.Crash([]Fate{Keep})
	holds(t, d, "d......e", "d......e")
}

func TestEachByteIsKept(t *testing.T) {
	d, _ := New(Shape{8, 1024})
	var bytes []byte
	for k := range 1024 {
		bytes = append(bytes, byte(k*7+k/256))
	}
	text := string(bytes)
	answers(t, "Write", d.Write(5, text), api.OK)
	readsAs(t, d, 5, text)
	answers(t, "Flush", d.Flush(), api.OK)
	readsAs(t, d, 5, text)
	mediaIs(t, d, 5, text)
}

// P3.3: crashes.

func TestCrashOfEachFate(t *testing.T) {
	for _, x := range []struct {
		name  string
		fates []Fate
		left  string
	}{
		{"no fates", nil, "ab......"},
		{"an empty list", []Fate{}, "ab......"},
		{"too few", []Fate{Keep}, "cb......"},
		{"dropped, then none", []Fate{Drop}, "ab......"},
		{"kept, then dropped", []Fate{Keep, Drop, Drop}, "cb......"},
		{"dropped, then kept", []Fate{Drop, Keep, Keep}, "ade....."},
		{"all kept", []Fate{Keep, Keep, Keep}, "cde....."},
		{"too many", []Fate{Keep, Drop, Keep, Keep, Tear + 5, -1}, "cbe....."},
		{"below 0", []Fate{-1, Keep, -2}, "ad......"},
		{"the least", []Fate{math.MinInt, math.MinInt, Keep}, "abe....."},
		{"torn at none", []Fate{Tear, Keep, Tear}, "ad......"},
	} {
		d := small(t)
		flushed(t, d, "ab", 0, 1)
		puts(t, d, "cde", 0, 1, 2)
		d.Crash(x.fates)
		t.Run(x.name, func(t *testing.T) { holds(t, d, x.left, x.left) })
	}
}

func TestFatesAreNumbered(t *testing.T) {
	if Drop != 0 || Keep != 1 || Tear != 2 {
		t.Errorf("%d, %d, %d", Drop, Keep, Tear)
	}
}

func TestTornAtEachLength(t *testing.T) {
	for _, s := range []int{128, 192, 1024} {
		for n := range s + 10 {
			torn(t, s, Fate(n)+Tear, min(n, s-1))
		}
		torn(t, s, math.MaxInt, s-1)
		torn(t, s, math.MaxInt-1, s-1)
	}
}

// torn: of a write with that fate so many bytes last, in front of what lasted before.
func torn(t *testing.T, size int, f Fate, kept int) {
	t.Helper()
	d, _ := New(Shape{8, size})
	old, now := strings.Repeat("o", size), strings.Repeat("n", size)
	d.Write(2, old)
	d.Flush()
	d.Write(2, now)
	d.Crash([]Fate{f})
	readsAs(t, d, 2, now[:kept]+old[kept:])
	mediaIs(t, d, 2, now[:kept]+old[kept:])
}

func TestCrashGoesInOrder(t *testing.T) {
	d := small(t)
	puts(t, d, "abc", 1, 1, 1)
	d.Crash([]Fate{Keep, Tear + 5, Tear + 2})
	readsAs(t, d, 1, "ccbbb"+page("a")[5:])
	puts(t, d, "xyz", 1, 1, 1)
	d.Crash([]Fate{Keep, Keep, Drop})
	readsAs(t, d, 1, page("y"))
	puts(t, d, "xyz", 1, 1, 1)
	d.Crash([]Fate{Tear + 3, Keep, Drop, Keep})
	readsAs(t, d, 1, page("y"))
}

func TestCrashEmptiesTheCache(t *testing.T) {
	d := small(t)
	puts(t, d, "ab", 0, 1)
	d.Crash([]Fate{Drop, Drop})
	answers(t, "Flush", d.Flush(), api.OK)
	holds(t, d, "........", "........")
	puts(t, d, "c", 2)
	d.Crash([]Fate{Keep, Keep})
	holds(t, d, "..c.....", "..c.....")
}

func TestFlushedWritesHaveNoFate(t *testing.T) {
	d := small(t)
	flushed(t, d, "ab", 0, 1)
	puts(t, d, "cd", 0, 1)
	d.Crash([]Fate{Keep})
	holds(t, d, "cb......", "cb......")
}

func TestCrashCountsNothing(t *testing.T) {
	d := small(t)
	puts(t, d, "a", 0)
	d.Crash([]Fate{Keep})
	counted(t, d, 0, 1, 0)
}

// P3.3: bad sectors.

func TestBadSectorsFail(t *testing.T) {
	d := small(t)
	flushed(t, d, "ab", 3, 4)
	d.Stick(3)
	d.Stick(3)
	for range 2 {
		refusesRead(t, d, 3, api.ErrMedia)
		answers(t, "Write of a bad sector", d.Write(3, page("x")), api.ErrMedia)
		readsAs(t, d, 4, page("b"))
		mediaIs(t, d, 3, page("a"))
		d.Flush()
		d.Crash([]Fate{Keep})
	}
	for _, i := range notSectors {
		d.Stick(i)
	}
	puts(t, d, "cdefghi", 0, 1, 2, 4, 5, 6, 7)
}

func TestNothingOfABadSectorIsInTheCache(t *testing.T) {
	d := small(t)
	puts(t, d, "abcdef", 3, 0, 3, 1, 3, 2)
	d.Stick(3)
	d.Crash([]Fate{Keep, Drop, Keep, Keep})
	for i, want := range []string{page("b"), noughts, page("f"), noughts} {
		mediaIs(t, d, i, want)
	}
	d = small(t)
	flushed(t, d, "z", 3)
	puts(t, d, "ab", 3, 4)
	d.Stick(3)
	answers(t, "Flush", d.Flush(), api.OK)
	mediaIs(t, d, 3, page("z"))
	mediaIs(t, d, 4, page("b"))
	counted(t, d, 0, 3, 2)
}

// P3.3: garbled bytes.

func TestGarbleInTheMediaAndInTheCache(t *testing.T) {
	d := small(t)
	flushed(t, d, "aq", 0, 1)
	puts(t, d, "bcd", 0, 1, 0)
	d.Garble(0, 2, 3)
	readsAs(t, d, 0, "ddg"+page("d")[3:])
	mediaIs(t, d, 0, "aab"+page("a")[3:])
	readsAs(t, d, 1, page("c"))
	mediaIs(t, d, 1, page("q"))
	d.Crash([]Fate{Keep, Keep})
	readsAs(t, d, 0, "bba"+page("b")[3:])
	readsAs(t, d, 1, page("c"))
	d.Garble(0, 2, 3)
	readsAs(t, d, 0, page("b"))
}

func TestGarbleEachPlace(t *testing.T) {
	for _, s := range []int{128, 192, 1024} {
		for at := range s {
			for _, far := range []int{at, at + s, at + 5*s} {
				garbledAt(t, s, far, at)
			}
		}
		garbledAt(t, s, math.MaxInt, math.MaxInt%s)
	}
}

func garbledAt(t *testing.T, size, at, place int) {
	t.Helper()
	d, _ := New(Shape{8, size})
	d.Write(7, strings.Repeat("a", size))
	d.Garble(7, at, 0xff)
	want := []byte(strings.Repeat("a", size))
	want[place] = 'a' ^ 0xff
	readsAs(t, d, 7, string(want))
	mediaIs(t, d, 7, strings.Repeat("\x00", place)+"\xff"+strings.Repeat("\x00", size-1-place))
}

func TestGarbleOfNothing(t *testing.T) {
	d := small(t)
	flushed(t, d, "abcdefgh", 0, 1, 2, 3, 4, 5, 6, 7)
	puts(t, d, "z", 0)
	for _, at := range []int{-1, -2, -size, -size + 1, math.MinInt} {
		d.Garble(0, at, 0xff)
	}
	for _, i := range notSectors {
		d.Garble(i, 0, 0xff)
		d.Garble(i, math.MaxInt, 1)
	}
	d.Garble(0, 5, 0)
	holds(t, d, "zbcdefgh", "abcdefgh")
}

func TestGarbleOfABadSector(t *testing.T) {
	d := small(t)
	flushed(t, d, "a", 3)
	d.Stick(3)
	d.Garble(3, 0, 1)
	mediaIs(t, d, 3, "`"+page("a")[1:])
	refusesRead(t, d, 3, api.ErrMedia)
}

func TestWritesBehindAGarbleAreWhole(t *testing.T) {
	d := small(t)
	d.Garble(0, 0, 1)
	puts(t, d, "a", 0)
	readsAs(t, d, 0, page("a"))
	d.Crash([]Fate{Tear + 1})
	readsAs(t, d, 0, "a"+noughts[1:])
}

// P3.3: writes that are lost, or stray.

func TestLoseEachWrite(t *testing.T) {
	for n := 1; n <= 4; n++ {
		d := small(t)
		d.Lose(n)
		puts(t, d, "abcd", 0, 1, 2, 3)
		want := []byte("abcd....")
		want[n-1] = '.'
		holds(t, d, string(want), "........")
		counted(t, d, sectors, 4, 0)
		d.Flush()
		holds(t, d, string(want), string(want))
	}
}

func TestStrayEachWrite(t *testing.T) {
	for n := 1; n <= 4; n++ {
		d := small(t)
		d.Stray(n, 7)
		puts(t, d, "abcd", 0, 1, 2, 3)
		want := []byte("abcd....")
		want[7] = want[n-1]
		want[n-1] = '.'
		holds(t, d, string(want), "........")
		counted(t, d, sectors, 4, 0)
		d.Flush()
		holds(t, d, string(want), string(want))
	}
}

func TestLoseAndStrayOfNone(t *testing.T) {
	for _, n := range append([]int{5, math.MaxInt}, noneth...) {
		d := small(t)
		d.Lose(n)
		d.Stray(n, 7)
		puts(t, d, "abcd", 0, 1, 2, 3)
		holds(t, d, "abcd....", "........")
	}
}

func TestANewOneTakesTheOldOnesPlace(t *testing.T) {
	for _, n := range noneth {
		d := small(t)
		d.Lose(1)
		d.Lose(n)
		d.Stray(2, 7)
		d.Stray(n, 6)
		puts(t, d, "abc", 0, 1, 2)
		holds(t, d, "abc.....", "........")
	}
	d := small(t)
	d.Lose(1)
	d.Lose(3)
	d.Stray(2, 7)
	d.Stray(4, 6)
	puts(t, d, "abcde", 0, 1, 2, 3, 4)
	holds(t, d, "ab..e.d.", "........")
}

func TestNumbersCountFromNowOn(t *testing.T) {
	d := small(t)
	puts(t, d, "ab", 0, 1)
	d.Lose(2)
	puts(t, d, "c", 2)
	d.Stray(2, 7)
	puts(t, d, "de", 3, 4)
	holds(t, d, "abc....e", "........")
}

func TestLostAndStrayAtOnce(t *testing.T) {
	d := small(t)
	d.Lose(2)
	d.Stray(2, 7)
	puts(t, d, "abcd", 0, 1, 2, 3)
	holds(t, d, "a.cd....", "........")
	d.Lose(1)
	d.Stray(2, 6)
	puts(t, d, "ef", 0, 1)
	holds(t, d, "a.cd..f.", "........")
	d.Stray(1, 5)
	d.Lose(2)
	puts(t, d, "gh", 0, 1)
	holds(t, d, "a.cd.gf.", "........")
}

func TestOnlyWritesToldAsDoneCount(t *testing.T) {
	d := small(t)
	d.Stick(5)
	d.Lose(1)
	d.Stray(2, 7)
	d.Write(-1, page("x"))
	d.Write(0, "x")
	d.Write(5, page("x"))
	off(t, d)
	d.Write(0, page("x"))
	d.Crash(nil)
	d.Fuse(1)
	d.Write(0, page("x"))
	d.Crash(nil)
	d.Flush()
	readsAs(t, d, 0, noughts)
	puts(t, d, "abc", 0, 1, 2)
	for i, want := range map[int]string{0: ".", 1: ".", 2: "c", 7: "b"} {
		readsAs(t, d, i, letter(want[0]))
	}
}

func TestStrayToNowhereIsLost(t *testing.T) {
	for _, to := range append([]int{3}, notSectors...) {
		d := small(t)
		flushed(t, d, "z", 3)
		d.Stray(2, to)
		d.Stick(3)
		puts(t, d, "abc", 0, 1, 2)
		for i, want := range []string{page("a"), noughts, page("c")} {
			readsAs(t, d, i, want)
		}
		d.Crash([]Fate{Keep, Keep, Keep})
		for i, want := range []string{page("a"), noughts, page("c"), page("z"), noughts} {
			mediaIs(t, d, i, want)
		}
		counted(t, d, 3, 4, 1)
	}
}

func TestStrayToItsOwnSector(t *testing.T) {
	d := small(t)
	d.Stray(1, 4)
	puts(t, d, "ab", 4, 5)
	holds(t, d, "....ab..", "........")
}

func TestStrayWritesAreOfTheSectorWhereTheyWent(t *testing.T) {
	d := small(t)
	d.Stray(1, 7)
	puts(t, d, "ab", 0, 1)
	d.Garble(0, 0, 1)
	readsAs(t, d, 7, page("a"))
	d.Garble(7, 0, 1)
	readsAs(t, d, 7, "`"+page("a")[1:])
	d.Stick(0)
	readsAs(t, d, 7, "`"+page("a")[1:])
	d.Stick(7)
	d.Crash([]Fate{Keep})
	mediaIs(t, d, 1, page("b"))
	mediaIs(t, d, 7, "\x01"+noughts[1:])
}

func TestLostWritesHaveNoFate(t *testing.T) {
	d := small(t)
	d.Lose(1)
	puts(t, d, "abc", 0, 1, 2)
	d.Crash([]Fate{Keep, Drop, Keep})
	holds(t, d, ".b......", ".b......")
}

func TestACrashLeavesWhatWillBeLostOrStray(t *testing.T) {
	d := small(t)
	d.Lose(2)
	d.Stray(3, 7)
	puts(t, d, "a", 0)
	d.Crash([]Fate{Keep})
	puts(t, d, "bc", 1, 2)
	holds(t, d, "a......c", "a.......")
}

// P3.3, P3.4: a device that is gone.

func TestAGoneDeviceStaysSo(t *testing.T) {
	d := small(t)
	flushed(t, d, "ab", 0, 1)
	puts(t, d, "c", 0)
	readsAs(t, d, 0, page("c"))
	d.Kill()
	for range 2 {
		if !d.Dead() || d.Off() {
			t.Errorf("gone: %v, off: %v", d.Dead(), d.Off())
		}
		refusesRead(t, d, 0, api.ErrLost)
		answers(t, "Write", d.Write(0, page("x")), api.ErrLost)
		answers(t, "Flush", d.Flush(), api.ErrLost)
		counted(t, d, 1, 3, 1)
		d.Kill()
	}
	mediaIs(t, d, 0, page("a"))
	d.Garble(1, 0, 1)
	mediaIs(t, d, 1, "c"+page("b")[1:])
	d.Crash([]Fate{Keep})
	mediaIs(t, d, 0, page("c"))
	if !d.Dead() {
		t.Error("a crash brings a device back")
	}
	refusesRead(t, d, 0, api.ErrLost)
}

// P3.3: a fuse.

func TestFuseAtEachCall(t *testing.T) {
	for n := 1; n <= 6; n++ {
		d := small(t)
		d.Fuse(n)
		for k := 1; k <= 6; k++ {
			want := api.OK
			if k >= n {
				want = api.ErrPower
			}
			answers(t, "a write or flush", writeOrFlush(d, k), want)
			if d.Off() != (k >= n) {
				t.Errorf("Fuse(%d): off is %v behind the call %d", n, d.Off(), k)
			}
		}
		counted(t, d, 0, n/2, (n-1)/2)
	}
}

// writeOrFlush: by turns, a write first.
func writeOrFlush(d *Device, k int) api.Errno {
	if k%2 == 0 {
		return d.Flush()
	}
	return d.Write(0, page("a"))
}

func TestFuseFailsAheadOfTheCall(t *testing.T) {
	d := small(t)
	puts(t, d, "a", 0)
	d.Fuse(1)
	answers(t, "Write", d.Write(1, page("b")), api.ErrPower)
	d.Crash([]Fate{Keep, Keep})
	holds(t, d, "a.......", "a.......")
	puts(t, d, "c", 2)
	d.Fuse(1)
	answers(t, "Flush", d.Flush(), api.ErrPower)
	mediaIs(t, d, 2, noughts)
	d.Crash([]Fate{Tear + 1})
	readsAs(t, d, 2, "c"+noughts[1:])
}

func TestFuseOfNone(t *testing.T) {
	for _, n := range noneth {
		d := small(t)
		d.Fuse(1)
		d.Fuse(n)
		flushed(t, d, "abc", 0, 1, 2)
		if d.Off() {
			t.Errorf("Fuse(%d) fails", n)
		}
	}
	d := small(t)
	d.Fuse(math.MaxInt)
	flushed(t, d, "abc", 0, 1, 2)
}

func TestANewFuseTakesTheOldOnesPlace(t *testing.T) {
	for _, x := range [][2]int{{1, 3}, {3, 2}, {2, 2}} {
		d := small(t)
		d.Fuse(x[0])
		d.Fuse(x[1])
		for k := 1; k < x[1]; k++ {
			puts(t, d, "a", 0)
		}
		answers(t, "Write", d.Write(0, page("a")), api.ErrPower)
	}
}

func TestFuseCountsWhatIsntRefusedAheadOfIt(t *testing.T) {
	d := small(t)
	d.Stick(5)
	d.Fuse(3)
	d.Write(-1, page("x"))
	d.Write(0, "x")
	d.Read(0)
	answers(t, "a bad sector", d.Write(5, page("x")), api.ErrMedia)
	d.Lose(1)
	puts(t, d, "a", 0)
	if d.Off() {
		t.Error("the fuse fails too early")
	}
	answers(t, "Flush", d.Flush(), api.ErrPower)
}

func TestPowerIsOffTillACrash(t *testing.T) {
	d := small(t)
	off(t, d)
	for _, n := range []int{0, 1, 5} {
		d.Fuse(n)
		if !d.Off() {
			t.Errorf("Fuse(%d) brings the power back", n)
		}
		refusesRead(t, d, 0, api.ErrPower)
		answers(t, "Write", d.Write(0, page("a")), api.ErrPower)
		answers(t, "Flush", d.Flush(), api.ErrPower)
	}
	d.Crash(nil)
	if d.Off() || d.Dead() {
		t.Errorf("off: %v, gone: %v", d.Off(), d.Dead())
	}
	for range 6 {
		flushed(t, d, "a", 0)
	}
}

func TestACrashTakesTheFuseAway(t *testing.T) {
	d := small(t)
	d.Fuse(1)
	d.Crash(nil)
	flushed(t, d, "a", 0)
	d.Fuse(2)
	puts(t, d, "b", 0)
	d.Crash(nil)
	flushed(t, d, "c", 0)
	holds(t, d, "c.......", "c.......")
}

func TestFaultsWithThePowerOff(t *testing.T) {
	d := small(t)
	puts(t, d, "abc", 0, 1, 2)
	off(t, d)
	d.Stick(0)
	d.Garble(1, 0, 1)
	d.Lose(1)
	d.Crash([]Fate{Keep, Keep})
	refusesRead(t, d, 0, api.ErrMedia)
	readsAs(t, d, 1, "c"+page("b")[1:])
	readsAs(t, d, 2, page("c"))
	puts(t, d, "d", 2)
	readsAs(t, d, 2, page("c"))
}

// P3.4

func TestMediaOfEachSector(t *testing.T) {
	d := small(t)
	for _, i := range notSectors {
		mediaIs(t, d, i, "")
	}
	flushed(t, d, "a", 6)
	puts(t, d, "b", 6)
	mediaIs(t, d, 6, page("a"))
	off(t, d)
	mediaIs(t, d, 6, page("a"))
	for _, i := range notSectors {
		mediaIs(t, d, i, "")
	}
}

func TestCount(t *testing.T) {
	d := small(t)
	d.Stick(5)
	for range 3 {
		d.Read(0)
		d.Media(0)
		d.Read(5)
		d.Read(-1)
		d.Write(5, page("a"))
		d.Write(0, "")
	}
	counted(t, d, 3, 0, 0)
	d.Lose(1)
	d.Stray(2, 5)
	puts(t, d, "abcde", 0, 0, 0, 0, 0)
	counted(t, d, 3, 5, 0)
	d.Flush()
	d.Flush()
	counted(t, d, 3, 5, 2)
	off(t, d)
	d.Read(0)
	d.Write(0, page("a"))
	counted(t, d, 3, 5, 2)
	d.Crash(nil)
	readsAs(t, d, 0, page("e"))
	counted(t, d, 4, 5, 2)
}

// Nil devices, and those that New didn't tell.

func TestNilDevices(t *testing.T) {
	var d *Device
	allFaults(d)
	refusesRead(t, d, 0, api.ErrNil)
	refusesRead(t, d, -1, api.ErrNil)
	answers(t, "Write", d.Write(0, page("a")), api.ErrNil)
	answers(t, "a wrong Write", d.Write(-1, ""), api.ErrNil)
	answers(t, "Flush", d.Flush(), api.ErrNil)
	if d.Shape() != (Shape{}) || d.Dead() || d.Off() {
		t.Errorf("%v, gone %v, off %v", d.Shape(), d.Dead(), d.Off())
	}
	mediaIs(t, d, 0, "")
	counted(t, d, 0, 0, 0)
}

func TestZeroDevicesHaveNoSectors(t *testing.T) {
	d := &Device{}
	d.Stick(0)
	d.Garble(0, 0, 1)
	d.Crash([]Fate{Keep})
	refusesRead(t, d, 0, api.ErrRange)
	answers(t, "Write", d.Write(0, ""), api.ErrRange)
	answers(t, "Flush", d.Flush(), api.OK)
	mediaIs(t, d, 0, "")
}

func allFaults(d *Device) {
	d.Stick(0)
	d.Garble(0, 0, 1)
	d.Lose(1)
	d.Stray(1, 0)
	d.Kill()
	d.Fuse(1)
	d.Crash([]Fate{Keep})
	d.Crash(nil)
}

// The rules that hold everywhere.

func TestDevicesAreApart(t *testing.T) {
	one, other := small(t), small(t)
	puts(t, one, "ab", 0, 1)
	off(t, one)
	allFaults(one)
	holds(t, other, "........", "........")
	flushed(t, other, "c", 0)
	holds(t, other, "c.......", "c.......")
	if other.Dead() || other.Off() {
		t.Errorf("gone %v, off %v", other.Dead(), other.Off())
	}
}

func TestFatesStayAsTheyAre(t *testing.T) {
	fates := []Fate{Keep, Tear + 3, -1, Drop, Tear + 5000}
	before := slices.Clone(fates)
	d := small(t)
	puts(t, d, "abcde", 0, 1, 2, 3, 4)
	d.Crash(fates)
	if !slices.Equal(fates, before) {
		t.Errorf("changed: %v", fates)
	}
	for k := range fates {
		fates[k] = Keep
	}
	puts(t, d, "fgh", 5, 6, 7)
	d.Crash(nil)
	mediaIs(t, d, 5, noughts)
}

func TestNothingBehindAListCounts(t *testing.T) {
	d := small(t)
	puts(t, d, "abc", 0, 1, 2)
	d.Crash([]Fate{Drop, Keep, Keep, Keep}[:2])
	holds(t, d, ".b......", ".b......")
}
