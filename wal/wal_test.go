package wal

import (
	"encoding/binary"
	"hash/crc32"
	"math"
	"slices"
	"strings"
	"testing"

	"treenail/api"
	"treenail/dev"
	"treenail/mirror"
	"treenail/rec"
	"treenail/remap"
)

// The shape of most tests' devices.
var shape = dev.Shape{Sectors: 24, Size: 128}

const (
	spares = 3
	blocks = 17
	slots  = 4
	room   = 90
)

// The ring of most tests: its first block is no multiple of its count, so that a block's number isn't its place by chance.
var ring = Ring{First: 3, Count: 5}

// Where most tests' logs count from.
const (
	from  = 103
	chain = 0xC0FFEE11
)

// starts: numbers that a log may count from, so far below the last one that a ring has room ahead of it.
var starts = []uint64{0, 1, 2, 4, 5, 6, 99, 255, 256, 257, 1<<32 - 2, 1 << 32, 1<<63 - 3, 1 << 63, math.MaxUint64 - 300, math.MaxUint64 - 256, math.MaxUint64 - 8}

// world is a mirror of a new pair of new devices.
type world struct {
	m *mirror.Mirror
	p *remap.Pair
	d [remap.Sides]*dev.Device
}

func made(t *testing.T, s dev.Shape, spares int) *world {
	t.Helper()
	w := &world{}
	for side := range remap.Sides {
		w.d[side] = device(t, s)
	}
	p, e := remap.Format(w.d[0], w.d[1], spares)
	if e != api.OK {
		t.Fatal(e)
	}
	w.p, w.m = p, over(t, p)
	return w
}

func usual(t *testing.T) *world {
	t.Helper()
	return made(t, shape, spares)
}

func device(t *testing.T, s dev.Shape) *dev.Device {
	t.Helper()
	d, e := dev.New(s)
	if e != api.OK {
		t.Fatal(e)
	}
	return d
}

func over(t *testing.T, p *remap.Pair) *mirror.Mirror {
	t.Helper()
	m, e := mirror.New(p)
	if e != api.OK {
		t.Fatal(e)
	}
	return m
}

// again: the pair as it lasts, and a mirror over it.
func (w *world) again(t *testing.T, spares int) {
	t.Helper()
	p, e := remap.Open(w.d[0], w.d[1], spares)
	if e != api.OK {
		t.Fatal(e)
	}
	w.p, w.m = p, over(t, p)
}

func (w *world) size() int { return w.d[0].Shape().Size }

// sector: where a side's block is.
func (w *world) sector(side, block int) int {
	place, _ := w.p.Table(side).At(block)
	return slots + place
}

// copies: what both sides have of a block, past the mirror; the empty text, where that can't be read.
func (w *world) copies(block int) [2]string {
	first, _ := w.p.Read(0, block)
	second, _ := w.p.Read(1, block)
	return [2]string{first, second}
}

func (w *world) has(t *testing.T, block int, want [2]string) {
	t.Helper()
	if got := w.copies(block); got != want {
		t.Errorf("the copies of the block %d are %q, not %q", block, got, want)
	}
}

// lays writes a side's copy of a block, past the mirror.
func (w *world) lays(t *testing.T, side, block int, image string) {
	t.Helper()
	if e := w.p.Write(side, block, image); e != api.OK {
		t.Fatalf("Write(%d, %d): %v", side, block, e)
	}
}

// laysAll writes both copies of each record's block, and flushes them.
func (w *world) laysAll(t *testing.T, r Ring, list []rec.Record) {
	t.Helper()
	for _, x := range list {
		for side := range remap.Sides {
			w.lays(t, side, blockOf(r, x.Seq), imageOf(w.size(), r, x))
		}
	}
	told(t, "Flush", w.m.Flush(), api.OK)
}

// hasAll: both copies of each record's block are its image.
func (w *world) hasAll(t *testing.T, r Ring, list []rec.Record) {
	t.Helper()
	for _, x := range list {
		image := imageOf(w.size(), r, x)
		w.has(t, blockOf(r, x.Seq), [2]string{image, image})
	}
}

// sectors: what reads on both devices, a bad sector's as the empty text.
func (w *world) sectors() [2][]string {
	var all [2][]string
	for side, d := range w.d {
		for i := range d.Shape().Sectors {
			s, _ := d.Read(i)
			all[side] = append(all[side], s)
		}
	}
	return all
}

// stays: nothing on both devices is otherwise than it was.
func (w *world) stays(t *testing.T, before [2][]string) {
	t.Helper()
	for side, all := range w.sectors() {
		for i, s := range all {
			if s != before[side][i] {
				t.Errorf("the sector %d of the side %d has %q, not %q", i, side, s, before[side][i])
			}
		}
	}
}

// done: how many writes and flushes both devices did.
func (w *world) done() [2][2]int {
	var all [2][2]int
	for side, d := range w.d {
		_, all[side][0], all[side][1] = d.Count()
	}
	return all
}

// asked: how many reads, writes and flushes both devices did.
func (w *world) asked() [2][3]int {
	var all [2][3]int
	for side, d := range w.d {
		all[side][0], all[side][1], all[side][2] = d.Count()
	}
	return all
}

// off: a device's power fails.
func off(t *testing.T, d *dev.Device) {
	t.Helper()
	d.Fuse(1)
	told(t, "the fuse", d.Flush(), api.ErrPower)
}

func told(t *testing.T, what string, e, want api.Errno) {
	t.Helper()
	if e != want {
		t.Errorf("%s: %v, not %v", what, e, want)
	}
}

// What follows makes updates, records and images by other means than the program's.

func updateBytes(u rec.Update) string {
	b := append([]byte{byte(u.Kind), byte(len(u.Key))}, u.Key...)
	switch u.Kind {
	case rec.Put:
		b = append(append(b, byte(len(u.Value))), u.Value...)
	case rec.Add:
		b = binary.LittleEndian.AppendUint64(b, u.Delta)
	}
	return string(b)
}

func updatesBytes(l []rec.Update) string {
	var b strings.Builder
	for _, u := range l {
		b.WriteString(updateBytes(u))
	}
	return b.String()
}

func recordBytes(x rec.Record) string {
	b := binary.LittleEndian.AppendUint64(nil, x.Seq)
	b = binary.LittleEndian.AppendUint32(b, x.Chain)
	b = binary.LittleEndian.AppendUint16(b, uint16(len(x.Updates)))
	return string(b) + updatesBytes(x.Updates)
}

func checkOf(s string) uint32 {
	return crc32.Checksum([]byte(s), crc32.MakeTable(crc32.Castagnoli))
}

func linkOf(x rec.Record) uint32 { return checkOf(recordBytes(x)) }

// sealed: an image of any head and payload.
func sealed(size int, kind byte, addr int, gen uint64, payload string) string {
	b := append([]byte("TRNL"), kind, 0)
	b = binary.LittleEndian.AppendUint16(b, uint16(len(payload)))
	b = binary.LittleEndian.AppendUint32(b, uint32(addr))
	b = binary.LittleEndian.AppendUint64(b, gen)
	b = append(append(b, 0, 0, 0, 0), payload...)
	b = append(b, make([]byte, size-len(b))...)
	binary.LittleEndian.PutUint32(b[20:], checkOf(string(b)))
	return string(b)
}

// blockOf: by the number alone, of numbers below 2^64.
func blockOf(r Ring, seq uint64) int { return r.First + int(seq%uint64(r.Count)) }

func imageOf(size int, r Ring, x rec.Record) string {
	return sealed(size, 3, blockOf(r, x.Seq), x.Seq, recordBytes(x))
}

// chained: records, one behind the other, of some updates each.
func chained(seq uint64, chain uint32, lists ...[]rec.Update) []rec.Record {
	var all []rec.Record
	for _, l := range lists {
		x := rec.Record{Seq: seq, Chain: chain, Updates: l}
		all = append(all, x)
		seq, chain = seq+1, linkOf(x)
	}
	return all
}

// behind: the number and the check of what comes behind some records.
func behind(seq uint64, chain uint32, list []rec.Record) (uint64, uint32) {
	if len(list) == 0 {
		return seq, chain
	}
	last := list[len(list)-1]
	return last.Seq + 1, linkOf(last)
}

func put(key, value string) rec.Update {
	return rec.Update{Kind: rec.Put, Key: key, Value: value}
}

func erase(key string) rec.Update { return rec.Update{Kind: rec.Delete, Key: key} }

func add(key string, delta uint64) rec.Update {
	return rec.Update{Kind: rec.Add, Key: key, Delta: delta}
}

// someLists: so many lists of updates, of which no two are the same; some have just as many bytes as there is room for.
func someLists(n int) [][]rec.Update {
	var lists [][]rec.Update
	for k := range n {
		key := string([]byte{'k', byte(k), byte(k >> 8)})
		switch k % 4 {
		case 0:
			lists = append(lists, []rec.Update{put(key, "v")})
		case 1:
			lists = append(lists, []rec.Update{erase(key), add("n", uint64(k)), put(key, "")})
		case 2:
			lists = append(lists, append(filled(room-len(updateBytes(erase(key)))), erase(key)))
		case 3:
			lists = append(lists, []rec.Update{add(key, math.MaxUint64)})
		}
	}
	return lists
}

// filled: updates of just so many bytes, of which there must be at least 4.
func filled(n int) []rec.Update {
	var l []rec.Update
	for n > 0 {
		take := min(n, 51)
		if left := n - take; left > 0 && left < 4 {
			take -= 4
		}
		value := strings.Repeat("v", max(0, min(32, take-4)))
		l = append(l, put(strings.Repeat("f", take-3-len(value)), value))
		n -= take
	}
	return l
}

func sameRecord(a, b rec.Record) bool {
	return a.Seq == b.Seq && a.Chain == b.Chain && slices.Equal(a.Updates, b.Updates)
}

// opens: Open is OK, and tells just these records; the log is behind them.
func opens(t *testing.T, m *mirror.Mirror, r Ring, seq uint64, chain uint32, want []rec.Record) *Log {
	t.Helper()
	l, list, e := Open(m, r, seq, chain)
	if e != api.OK || l == nil {
		t.Fatalf("Open(%v, %d, %x): %v", r, seq, chain, e)
	}
	if !slices.EqualFunc(list, want, sameRecord) {
		t.Fatalf("Open(%v, %d, %x): %v, not %v", r, seq, chain, list, want)
	}
	next, link := behind(seq, chain, want)
	tells(t, l, next, link, r.Count-len(want))
	return l
}

func refusesOpen(t *testing.T, m *mirror.Mirror, r Ring, want api.Errno) {
	t.Helper()
	for _, seq := range []uint64{0, from, math.MaxUint64} {
		if l, list, e := Open(m, r, seq, chain); l != nil || len(list) != 0 || e != want {
			t.Errorf("Open(%v, %d): %v, %v, %v, not %v", r, seq, l, list, e, want)
		}
	}
}

func tells(t *testing.T, l *Log, next uint64, link uint32, left int) {
	t.Helper()
	if seq, chain := l.Next(); seq != next || chain != link {
		t.Errorf("Next: %d, %x, not %d, %x", seq, chain, next, link)
	}
	if n := l.Left(); n != left {
		t.Errorf("Left: %d, not %d", n, left)
	}
}

func appends(t *testing.T, l *Log, lists ...[]rec.Update) {
	t.Helper()
	for _, u := range lists {
		if e := l.Append(u...); e != api.OK {
			t.Fatalf("Append(%v): %v", u, e)
		}
	}
}

// TestFilled: what the tests of Room hang on.
func TestFilled(t *testing.T) {
	for n := range 1100 {
		if n < 4 {
			continue
		}
		l := filled(n)
		if len(updatesBytes(l)) != n || slices.ContainsFunc(l, func(u rec.Update) bool { return u.Check() != api.OK }) {
			t.Errorf("%d bytes: %v", n, l)
		}
	}
}

// Of a nil log.

func TestANilLog(t *testing.T) {
	var l *Log
	tells(t, l, 0, 0, 0)
	if n := l.Room(); n != 0 {
		t.Errorf("Room: %d", n)
	}
	for _, u := range [][]rec.Update{nil, {}, {put("k", "v")}, {{}}, {put("", "")}, filled(room + 1), filled(5000), {put("k", "v"), {Kind: 7, Key: "k"}}} {
		told(t, "Append", l.Append(u...), api.ErrNil)
	}
	told(t, "Sync", l.Sync(), api.ErrNil)
	for range 2 {
		if seq, chain, e := l.Cut(); seq != 0 || chain != 0 || e != api.ErrNil {
			t.Errorf("Cut: %d, %x, %v", seq, chain, e)
		}
	}
}

// TestTheZeroLog: Open didn't make it, and the chapter doesn't speak of it. It has no block and no room, and no call of it panics.
func TestTheZeroLog(t *testing.T) {
	var l Log
	tells(t, &l, 0, 0, 0)
	if n := l.Room(); n != 0 {
		t.Errorf("Room: %d", n)
	}
	told(t, "Append", l.Append(put("k", "v")), api.ErrLong)
	told(t, "Sync", l.Sync(), api.ErrNil)
	cuts(t, &l, 0, 0, 0)
}

// P13.1: what Open refuses.

// Numbers that are far from each ring's.
var wide = []int{math.MinInt, math.MinInt + 1, math.MinInt + 3, math.MinInt + 5, math.MinInt32, -1 << 32, -1<<32 + 3, -1 << 16, -4096, -257, -256, -17, -5, -3, -2, -1, 1 << 16, 1<<16 + 3, 1<<16 + 5, math.MaxInt32, 1 << 32, 1<<32 + 3, 1<<32 + 5, math.MaxInt - 256, math.MaxInt - 5, math.MaxInt - 2, math.MaxInt - 1, math.MaxInt}

func TestOpenOfANilMirror(t *testing.T) {
	for _, r := range []Ring{ring, {}, {0, 2}, {0, 1}, {-1, 5}, {3, 257}, {5000, 5}} {
		refusesOpen(t, nil, r, api.ErrNil)
	}
	for _, n := range wide {
		refusesOpen(t, nil, Ring{n, 5}, api.ErrNil)
		refusesOpen(t, nil, Ring{3, n}, api.ErrNil)
		refusesOpen(t, nil, Ring{n, n}, api.ErrNil)
	}
}

// TestOpenOfAMirrorOfNoPair: it wasn't made by New, and has no blocks.
func TestOpenOfAMirrorOfNoPair(t *testing.T) {
	refusesOpen(t, &mirror.Mirror{}, ring, api.ErrArg)
}

// TestEachSmallRing: may be, if it has at least two blocks, and all of them are there.
func TestEachSmallRing(t *testing.T) {
	w := usual(t)
	before, done := w.sectors(), w.done()
	for first := -6; first < 30; first++ {
		for count := -6; count < 30; count++ {
			r := Ring{first, count}
			if count >= 2 && first >= 0 && first+count <= blocks {
				opens(t, w.m, r, from, chain, nil)
			} else {
				refusesOpen(t, w.m, r, api.ErrArg)
			}
		}
	}
	w.stays(t, before)
	if w.done() != done {
		t.Error("Open wrote")
	}
}

// TestRingsAtTheEnds: of pairs with all spares, too, behind whose last block there are sectors that are none.
func TestRingsAtTheEnds(t *testing.T) {
	for n := range 11 {
		w := made(t, shape, n)
		last := 24 - slots - n
		for count := 2; count <= last; count++ {
			opens(t, w.m, Ring{last - count, count}, from, chain, nil)
			refusesOpen(t, w.m, Ring{last - count + 1, count}, api.ErrArg)
		}
		refusesOpen(t, w.m, Ring{0, last + 1}, api.ErrArg)
	}
}

func TestRingsOfMaxLog(t *testing.T) {
	for _, sectors := range []int{300, 4096} {
		w := made(t, dev.Shape{Sectors: sectors, Size: 128}, spares)
		last := sectors - slots - spares
		for count := 250; count < 270; count++ {
			for _, first := range []int{0, 1, 7, last - count - 1, last - count, last - count + 1} {
				if count <= 256 && first+count <= last {
					opens(t, w.m, Ring{first, count}, from, chain, nil)
				} else {
					refusesOpen(t, w.m, Ring{first, count}, api.ErrArg)
				}
			}
		}
	}
}

func TestRingsOfWideNumbers(t *testing.T) {
	w := usual(t)
	for _, n := range wide {
		for _, other := range append([]int{0, 1, 2, 3, 5, 15, 16, 17, 255, 256, 257}, wide...) {
			refusesOpen(t, w.m, Ring{n, other}, api.ErrArg)
			refusesOpen(t, w.m, Ring{other, n}, api.ErrArg)
		}
	}
}

// someRings: one that may be ahead of those that may not.
func someRings() []Ring {
	return []Ring{ring, {3, 1}, {3, 257}, {-1, 5}, {13, 5}, {math.MaxInt, math.MaxInt}, {math.MinInt, math.MinInt}}
}

// TestRingsAheadOfDevices: ErrArg is told ahead of what the devices tell, and nothing is asked of them.
func TestRingsAheadOfDevices(t *testing.T) {
	for side := range remap.Sides {
		w := usual(t)
		asked := w.asked()
		for _, r := range someRings()[1:] {
			refusesOpen(t, w.m, r, api.ErrArg)
		}
		if w.asked() != asked {
			t.Error("a device was asked")
		}
		off(t, w.d[side])
		for _, r := range someRings()[1:] {
			refusesOpen(t, w.m, r, api.ErrArg)
		}
		refusesOpen(t, w.m, ring, api.ErrPower)
		w.d[side].Crash(nil)
		w.d[side].Kill()
		for _, r := range someRings()[1:] {
			refusesOpen(t, w.m, r, api.ErrArg)
		}
		w.d[1-side].Kill()
		for _, r := range someRings()[1:] {
			refusesOpen(t, w.m, r, api.ErrArg)
		}
	}
}

// P2.

func TestTwoLogsApart(t *testing.T) {
	a, b := usual(t), usual(t)
	l, m := opens(t, a.m, ring, from, chain, nil), opens(t, b.m, ring, from, chain, nil)
	lists := someLists(5)
	appends(t, l, lists...)
	tells(t, m, from, chain, 5)
	opens(t, b.m, ring, from, chain, nil)
	appends(t, m, lists[3])
	opens(t, a.m, ring, from, chain, chained(from, chain, lists...))
	opens(t, b.m, ring, from, chain, chained(from, chain, lists[3]))
}

// TestTwoRingsOfOneMirror: side by side, neither has a block of the other one's.
func TestTwoRingsOfOneMirror(t *testing.T) {
	w := usual(t)
	lists := someLists(9)
	first, second := Ring{2, 5}, Ring{7, 4}
	l, m := opens(t, w.m, first, from, chain, nil), opens(t, w.m, second, from, chain, nil)
	for k := range 4 {
		appends(t, l, lists[k])
		appends(t, m, lists[5+k])
	}
	appends(t, l, lists[4])
	opens(t, w.m, first, from, chain, chained(from, chain, lists[:5]...))
	opens(t, w.m, second, from, chain, chained(from, chain, lists[5:]...))
}

// Rule 4: what is handed in and what is told.

func TestWhatIsHandedInIsNotKept(t *testing.T) {
	w := usual(t)
	l := opens(t, w.m, ring, from, chain, nil)
	memory := []rec.Update{put("a", "1"), erase("b"), add("c", 3), put("behind", "the length")}
	before := slices.Clone(memory)
	told(t, "Append", l.Append(memory[:3]...), api.OK)
	if !slices.Equal(memory, before) {
		t.Errorf("what was handed in is %v", memory)
	}
	want := chained(from, chain, before[:3], before[3:])
	for k := range memory {
		memory[k] = put("x", "changed")
	}
	tells(t, l, from+1, linkOf(want[0]), 4)
	appends(t, l, before[3:])
	opens(t, w.m, ring, from, chain, want)
}

func TestWhatIsToldIsNewMemory(t *testing.T) {
	w := usual(t)
	want := chained(from, chain, someLists(3)...)
	w.laysAll(t, ring, want)
	l, list, _ := Open(w.m, ring, from, chain)
	_, other, _ := Open(w.m, ring, from, chain)
	for k := range list {
		for j := range list[k].Updates[:cap(list[k].Updates)] {
			list[k].Updates[:cap(list[k].Updates)][j] = put("x", "changed")
		}
		list[k] = rec.Record{Seq: 1}
	}
	if !slices.EqualFunc(other, want, sameRecord) {
		t.Errorf("another Open told %v", other)
	}
	seq, link := behind(from, chain, want)
	tells(t, l, seq, link, 2)
	appends(t, l, someLists(4)[3])
	opens(t, w.m, ring, from, chain, chained(from, chain, someLists(4)...))
}

// TestListsOfOneAnswerShareNothing: changing one record's updates, also behind their length, changes no other one's.
func TestListsOfOneAnswerShareNothing(t *testing.T) {
	w := usual(t)
	want := chained(from, chain, someLists(5)...)
	w.laysAll(t, ring, want)
	for k := range want {
		_, list, _ := Open(w.m, ring, from, chain)
		all := list[k].Updates[:cap(list[k].Updates)]
		for j := range all {
			all[j] = put("x", "changed")
		}
		for j := range want {
			if j != k && !sameRecord(list[j], want[j]) {
				t.Errorf("with the record %d changed, %d is %v", k, j, list[j])
			}
		}
	}
}
