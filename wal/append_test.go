package wal

import (
	"math"
	"slices"
	"strings"
	"testing"

	"treenail/api"
	"treenail/dev"
	"treenail/rec"
	"treenail/remap"
)

// P13.2: Next, Left and Room.

func TestNextAndLeftBehindEachRecord(t *testing.T) {
	for _, r := range []Ring{{0, 2}, {1, 3}, ring, {4, 8}} {
		for _, seq := range starts {
			w := usual(t)
			l := opens(t, w.m, r, seq, chain, nil)
			lists := someLists(r.Count)
			all := chained(seq, chain, lists...)
			for k := range all {
				appends(t, l, lists[k])
				next, link := behind(seq, chain, all[:k+1])
				tells(t, l, next, link, r.Count-k-1)
				tells(t, l, next, link, r.Count-k-1)
			}
		}
	}
}

func TestRoom(t *testing.T) {
	for size := 128; size <= 1024; size += 64 {
		for _, spares := range []int{0, 2} {
			w := made(t, dev.Shape{Sectors: 16, Size: size}, spares)
			l := opens(t, w.m, Ring{4, 3}, from, chain, nil)
			for k := range 4 {
				if n := l.Room(); n != size-38 {
					t.Errorf("blocks of %d bytes: %d", size, n)
				}
				if k < 3 {
					appends(t, l, filled(size-38-k))
				}
			}
			l.Cut()
			if n := l.Room(); n != size-38 {
				t.Errorf("blocks of %d bytes, behind a Cut: %d", size, n)
			}
		}
	}
}

// TestAppendOfJustAsManyBytesAsThereIsRoomFor: and of one more, in one update and in many.
func TestAppendOfJustAsManyBytesAsThereIsRoomFor(t *testing.T) {
	for size := 128; size <= 1024; size += 64 {
		w := made(t, dev.Shape{Sectors: 300, Size: size}, 0)
		r := Ring{4, 256}
		l := opens(t, w.m, r, from, chain, nil)
		var lists [][]rec.Update
		for n := size - 48; n < size-20; n++ {
			lists = append(lists, filled(n))
		}
		for _, n := range []int{(size - 38) / 3, (size-38)/3 + 1} { // the shortest updates
			lists = append(lists, slices.Repeat([]rec.Update{erase("k")}, n))
		}
		var want [][]rec.Update
		for _, u := range lists {
			if len(updatesBytes(u)) <= size-38 {
				appends(t, l, u)
				want = append(want, u)
			} else {
				told(t, "Append", l.Append(u...), api.ErrLong)
			}
		}
		opens(t, w.m, r, from, chain, chained(from, chain, want...))
		if len(want) != 12 {
			t.Errorf("%d were appended", len(want))
		}
	}
}

// P13.3: Append.

// TestWhatAppendWrites: the record's image, to both sides, and nothing else; nothing is flushed.
func TestWhatAppendWrites(t *testing.T) {
	for _, r := range []Ring{{0, 2}, {1, 3}, ring, {4, 8}, {0, 17}} {
		for _, seq := range starts {
			w := usual(t)
			l := opens(t, w.m, r, seq, chain, nil)
			if seq > math.MaxUint64-uint64(r.Count) {
				continue
			}
			lists := someLists(r.Count)
			want, asked := w.sectors(), w.done()
			for _, x := range chained(seq, chain, lists...) {
				told(t, "Append", l.Append(x.Updates...), api.OK)
				for side := range remap.Sides {
					want[side][slots+blockOf(r, x.Seq)] = imageOf(128, r, x)
					asked[side][0]++
					if w.d[side].Media(slots+blockOf(r, x.Seq)) != strings.Repeat("\x00", 128) {
						t.Error("Append flushes")
					}
				}
				w.stays(t, want)
				if w.done() != asked {
					t.Errorf("%v, not %v", w.done(), asked)
				}
			}
		}
	}
}

// TestAppendOfEachUpdate: of each kind, the shortest and the longest, alone and together, also of one key several times.
func TestAppendOfEachUpdate(t *testing.T) {
	key, value := strings.Repeat("k", 16), strings.Repeat("\x00", 32)
	lists := [][]rec.Update{
		{put("k", "")}, {put(key, value)}, {put("\x00", "\xff")}, {erase("k")}, {erase(key)}, {erase("\xff\x00")}, {add("k", 0)}, {add(key, math.MaxUint64)}, {add("k", 1<<63)},
		{put("k", "1"), put("k", "2"), erase("k"), add("k", 1), add("k", 1)}, {erase("k"), erase("k"), erase("k")}, {add("a", 1), put("b", "v"), erase("c")},
	}
	w := usual(t)
	r := Ring{2, 12}
	l := opens(t, w.m, r, from, chain, nil)
	appends(t, l, lists...)
	want := chained(from, chain, lists...)
	w.hasAll(t, r, want)
	opens(t, w.m, r, from, chain, want)
}

func TestAppendToAFullLog(t *testing.T) {
	for count := 2; count <= 17; count++ {
		w := usual(t)
		r := Ring{17 - count, count}
		l := opens(t, w.m, r, from, chain, nil)
		all := chained(from, chain, someLists(count)...)
		appends(t, l, someLists(count)...)
		before, done := w.sectors(), w.done()
		next, link := behind(from, chain, all)
		for range 2 {
			told(t, "Append", l.Append(put("k", "v")), api.ErrFull)
			tells(t, l, next, link, 0)
		}
		w.stays(t, before)
		if w.done() != done {
			t.Error("a refused call wrote")
		}
		l = opens(t, w.m, r, from, chain, all)
		told(t, "Append behind Open", l.Append(put("k", "v")), api.ErrFull)
	}
}

// TestAppendToTheLargestLog: 256 records, and not one more.
func TestAppendToTheLargestLog(t *testing.T) {
	w := made(t, dev.Shape{Sectors: 300, Size: 128}, 0)
	r := Ring{40, 256}
	l := opens(t, w.m, r, from, chain, nil)
	lists := someLists(256)
	appends(t, l, lists...)
	told(t, "Append", l.Append(put("k", "v")), api.ErrFull)
	opens(t, w.m, r, from, chain, chained(from, chain, lists...))
}

// A refusal is updates that Append refuses, whatever the log is.
type refusal struct {
	name string
	u    []rec.Update
	want api.Errno
}

func refusals() []refusal {
	long, large := strings.Repeat("k", 17), strings.Repeat("v", 33)
	list := []refusal{
		{"none", nil, api.ErrArg}, {"an empty list", []rec.Update{}, api.ErrArg}, {"none ahead of some", []rec.Update{put("k", "v")}[:0], api.ErrArg},
		{"a byte more than there is room for", filled(room + 1), api.ErrLong}, {"many more", filled(5000), api.ErrLong}, {"more than a record may have", slices.Repeat([]rec.Update{erase("k")}, 70000), api.ErrLong},
		{"65536", slices.Repeat([]rec.Update{erase("k")}, 65536), api.ErrLong}, {"65537", slices.Repeat([]rec.Update{erase("k")}, 65537), api.ErrLong},
	}
	for _, u := range []refusal{
		{"the zero Update", []rec.Update{{}}, api.ErrLarge}, {"no Key", []rec.Update{put("", "v")}, api.ErrLarge}, {"a long Key", []rec.Update{erase(long)}, api.ErrLarge}, {"a long Value", []rec.Update{put("k", large)}, api.ErrLarge},
		{"no Kind", []rec.Update{{Key: "k"}}, api.ErrArg}, {"another Kind", []rec.Update{{Kind: 4, Key: "k"}}, api.ErrArg}, {"a Delete with a Value", []rec.Update{{Kind: rec.Delete, Key: "k", Value: "v"}}, api.ErrArg},
		{"an Add with a Value", []rec.Update{{Kind: rec.Add, Key: "k", Value: "v"}}, api.ErrArg}, {"a Put with a Delta", []rec.Update{{Kind: rec.Put, Key: "k", Delta: 1}}, api.ErrArg}, {"a Delete with a Delta", []rec.Update{{Kind: rec.Delete, Key: "k", Delta: 1}}, api.ErrArg},
	} {
		list = append(list, u,
			refusal{u.name + ", behind", slices.Concat([]rec.Update{put("k", "v")}, u.u), u.want},
			refusal{u.name + ", ahead", slices.Concat(u.u, []rec.Update{put("k", "v")}), u.want},
			refusal{u.name + ", with too many bytes ahead", slices.Concat(filled(room+1), u.u), u.want},
			refusal{u.name + ", with too many bytes behind", slices.Concat(u.u, filled(5000)), u.want},
			refusal{u.name + ", ahead of another error", slices.Concat(u.u, []rec.Update{{}, {Key: "k"}}), u.want})
	}
	return list
}

// refusesAppends: each refusal is told as that, and nothing is changed or asked.
func refusesAppends(t *testing.T, w *world, l *Log) {
	t.Helper()
	asked := w.asked()
	next, link := l.Next()
	left := l.Left()
	for _, x := range refusals() {
		before := slices.Clone(x.u)
		told(t, "Append of "+x.name, l.Append(x.u...), x.want)
		if !slices.Equal(before, x.u) {
			t.Errorf("%s was changed", x.name)
		}
	}
	tells(t, l, next, link, left)
	if w.asked() != asked {
		t.Error("a device was asked")
	}
}

// TestWhatAppendRefuses: of an empty log and of a full one, with the power on and off, and with devices that are gone: the errors of what is handed in come first.
func TestWhatAppendRefuses(t *testing.T) {
	for n := range 6 {
		w := usual(t)
		l := opens(t, w.m, ring, from, chain, nil)
		all := chained(from, chain, someLists(n)...)
		appends(t, l, someLists(n)...)
		before := w.sectors()
		refusesAppends(t, w, l)
		w.stays(t, before)
		opens(t, w.m, ring, from, chain, all)
		off(t, w.d[n%2])
		refusesAppends(t, w, l)
		w.d[0].Kill()
		w.d[1].Kill()
		refusesAppends(t, w, l)
	}
}

// TestAFullLogAheadOfDevices: ErrFull is told ahead of what the devices tell.
func TestAFullLogAheadOfDevices(t *testing.T) {
	for side := range remap.Sides {
		w := usual(t)
		l := opens(t, w.m, ring, from, chain, nil)
		appends(t, l, someLists(5)...)
		off(t, w.d[side])
		told(t, "Append without power", l.Append(put("k", "v")), api.ErrFull)
		w.d[0].Kill()
		w.d[1].Kill()
		told(t, "Append without devices", l.Append(put("k", "v")), api.ErrFull)
		told(t, "Append of none", l.Append(), api.ErrArg)
		told(t, "Append of too many bytes", l.Append(filled(room+1)...), api.ErrLong)
	}
}

// P13.3: an error of a device in Append.

// TestAppendWithoutPower: of either device, at its write, and from ahead of it on. Nothing is changed but perhaps the block; with the power on again, a later Append is the record.
func TestAppendWithoutPower(t *testing.T) {
	for side := range remap.Sides {
		for n := range 5 {
			for _, fates := range fateLists() {
				w := usual(t)
				l := opens(t, w.m, ring, from, chain, nil)
				lists := someLists(5)
				all := chained(from, chain, lists...)
				appends(t, l, lists[:n]...)
				told(t, "Sync", l.Sync(), api.OK)
				want := w.sectors()
				w.d[side].Fuse(1)
				for range 3 {
					told(t, "Append", l.Append(put("never", "told")), api.ErrPower)
					next, link := behind(from, chain, all[:n])
					tells(t, l, next, link, 5-n)
				}
				w.d[0].Crash(fates)
				w.d[1].Crash(fates[1:])
				for x := range remap.Sides { // the block may be whatever it is
					want[x][slots+blockOf(ring, from+uint64(n))], _ = w.p.Read(x, blockOf(ring, from+uint64(n)))
				}
				w.stays(t, want)
				appends(t, l, lists[n:]...)
				w.hasAll(t, ring, all)
				told(t, "Sync", l.Sync(), api.OK)
				opens(t, w.m, ring, from, chain, all)
			}
		}
	}
}

// TestWhatOpenTellsOfAnAppendThatFailed: the records that were there, and perhaps the one that wasn't told as done.
func TestWhatOpenTellsOfAnAppendThatFailed(t *testing.T) {
	tellings := map[int]int{}
	for side := range remap.Sides {
		for _, fates := range fateLists() {
			w := usual(t)
			l := opens(t, w.m, ring, from, chain, nil)
			lists := someLists(4)
			all := chained(from, chain, lists...)
			appends(t, l, lists[:3]...)
			told(t, "Sync", l.Sync(), api.OK)
			w.d[side].Fuse(1)
			told(t, "Append", l.Append(lists[3]...), api.ErrPower)
			w.d[0].Crash(fates)
			w.d[1].Crash(fates)
			w.again(t, spares)
			_, list, _ := Open(w.m, ring, from, chain)
			opens(t, w.m, ring, from, chain, all[:max(3, min(len(list), 4))])
			tellings[len(list)]++
		}
	}
	if len(tellings) != 2 || tellings[3] == 0 || tellings[4] == 0 {
		t.Errorf("how many records were told, how often: %v", tellings)
	}
}

// TestAppendWithSidesGone: one is enough; ErrLost without both.
func TestAppendWithSidesGone(t *testing.T) {
	for side := range remap.Sides {
		w := usual(t)
		l := opens(t, w.m, ring, from, chain, nil)
		lists := someLists(5)
		all := chained(from, chain, lists...)
		appends(t, l, lists[0])
		w.d[side].Kill()
		appends(t, l, lists[1:3]...)
		next, link := behind(from, chain, all[:3])
		tells(t, l, next, link, 2)
		opens(t, w.m, ring, from, chain, all[:3])
		told(t, "Sync", l.Sync(), api.OK)
		w.d[1-side].Kill()
		told(t, "Append", l.Append(lists[3]...), api.ErrLost)
		tells(t, l, next, link, 2)
		told(t, "Sync", l.Sync(), api.ErrLost)
		w.d[side] = device(t, shape)
		told(t, "Replace", w.p.Replace(side, w.d[side]), api.OK)
		appends(t, l, lists[3])
		w.has(t, blockOf(ring, all[3].Seq), [2][2]string{{imageOf(128, ring, all[3]), ""}, {"", imageOf(128, ring, all[3])}}[side])
	}
}

// TestAppendToBadSectors: they are stood for by spares; without spares one side is enough, and ErrMedia without both.
func TestAppendToBadSectors(t *testing.T) {
	lists := someLists(5)
	all := chained(from, chain, lists...)
	for stuck := range 4 {
		for _, spares := range []int{0, spares} {
			w := made(t, shape, spares)
			l := opens(t, w.m, ring, from, chain, nil)
			appends(t, l, lists[:2]...)
			block := blockOf(ring, all[2].Seq)
			for side := range remap.Sides {
				if stuck>>side&1 == 1 {
					w.d[side].Stick(slots + block)
				}
			}
			before, want := w.sectors(), api.OK
			if stuck == 3 && spares == 0 {
				want = api.ErrMedia
			}
			told(t, "Append", l.Append(lists[2]...), want)
			if want == api.ErrMedia {
				tells(t, l, all[2].Seq, all[2].Chain, 3)
				told(t, "Append once more", l.Append(lists[1]...), want)
				tells(t, l, all[2].Seq, all[2].Chain, 3)
				w.stays(t, before)
				opens(t, w.m, ring, from, chain, all[:2])
				continue
			}
			appends(t, l, lists[3])
			opens(t, w.m, ring, from, chain, all[:4])
			told(t, "Sync", l.Sync(), api.OK)
			w.d[0].Crash(nil)
			w.d[1].Crash(nil)
			w.again(t, spares)
			opens(t, w.m, ring, from, chain, all[:4])
		}
	}
}

// P13.3: Sync.

func TestSync(t *testing.T) {
	w := usual(t)
	l := opens(t, w.m, ring, from, chain, nil)
	all := chained(from, chain, someLists(5)...)
	for k, x := range all {
		appends(t, l, x.Updates)
		done := w.done()
		told(t, "Sync", l.Sync(), api.OK)
		for side, d := range w.d {
			done[side][1]++
			if d.Media(slots+blockOf(ring, x.Seq)) != imageOf(128, ring, x) {
				t.Errorf("the side %d isn't flushed", side)
			}
		}
		if w.done() != done {
			t.Errorf("%v, not %v", w.done(), done)
		}
		next, link := behind(from, chain, all[:k+1])
		tells(t, l, next, link, 4-k)
	}
	told(t, "Sync of nothing new", l.Sync(), api.OK)
}

// TestSyncWithoutPower: the error, and nothing else is changed; with the power on again, it is OK.
func TestSyncWithoutPower(t *testing.T) {
	for side := range remap.Sides {
		w := usual(t)
		l := opens(t, w.m, ring, from, chain, nil)
		all := chained(from, chain, someLists(2)...)
		appends(t, l, someLists(2)...)
		w.d[side].Fuse(1)
		next, link := behind(from, chain, all)
		for range 2 {
			told(t, "Sync", l.Sync(), api.ErrPower)
			tells(t, l, next, link, 3)
		}
		w.d[side].Crash(slices.Repeat([]dev.Fate{dev.Keep}, 9))
		told(t, "Sync", l.Sync(), api.OK)
		tells(t, l, next, link, 3)
		opens(t, w.m, ring, from, chain, all)
	}
}

func TestSyncWithSidesGone(t *testing.T) {
	for side := range remap.Sides {
		w := usual(t)
		l := opens(t, w.m, ring, from, chain, nil)
		appends(t, l, someLists(1)...)
		w.d[side].Kill()
		told(t, "Sync", l.Sync(), api.OK)
		w.d[1-side].Kill()
		told(t, "Sync", l.Sync(), api.ErrLost)
		next, link := behind(from, chain, chained(from, chain, someLists(1)...))
		tells(t, l, next, link, 4)
	}
}

// P13.3: Cut.

func cuts(t *testing.T, l *Log, wantSeq uint64, wantChain uint32, count int) {
	t.Helper()
	if seq, chain, e := l.Cut(); seq != wantSeq || chain != wantChain || e != api.OK {
		t.Errorf("Cut: %d, %x, %v, not %d, %x", seq, chain, e, wantSeq, wantChain)
	}
	tells(t, l, wantSeq, wantChain, count)
}

func refusesCut(t *testing.T, l *Log) {
	t.Helper()
	next, link := l.Next()
	left := l.Left()
	if seq, chain, e := l.Cut(); seq != 0 || chain != 0 || e != api.ErrGen {
		t.Errorf("Cut: %d, %x, %v", seq, chain, e)
	}
	tells(t, l, next, link, left)
}

// TestCut: of a log of so many records; nothing is asked of the devices, and by what the log counted from till then its records are there still.
func TestCut(t *testing.T) {
	for _, r := range []Ring{{0, 2}, {1, 3}, ring, {4, 8}, {0, 17}} {
		for n := range r.Count + 1 {
			w := usual(t)
			l := opens(t, w.m, r, from, chain, nil)
			lists := someLists(n)
			all := chained(from, chain, lists...)
			appends(t, l, lists...)
			before := w.sectors()
			asked := w.asked()
			next, link := behind(from, chain, all)
			cuts(t, l, next+uint64(r.Count), link, r.Count)
			if w.asked() != asked {
				t.Error("a device was asked")
			}
			w.stays(t, before)
			opens(t, w.m, r, from, chain, all)
			opens(t, w.m, r, next+uint64(r.Count), link, nil)
			cuts(t, l, next+2*uint64(r.Count), link, r.Count)
			cuts(t, l, next+3*uint64(r.Count), link, r.Count)
		}
	}
}

// TestCutWithoutDevices: as nothing is asked of them.
func TestCutWithoutDevices(t *testing.T) {
	for side := range remap.Sides {
		w := usual(t)
		l := opens(t, w.m, ring, from, chain, nil)
		appends(t, l, someLists(3)...)
		next, link := behind(from, chain, chained(from, chain, someLists(3)...))
		off(t, w.d[side])
		cuts(t, l, next+5, link, 5)
		w.d[0].Kill()
		w.d[1].Kill()
		cuts(t, l, next+10, link, 5)
	}
}

// TestCutOfAnOpenedLog: the records that Open told are none any more, as those that were appended.
func TestCutOfAnOpenedLog(t *testing.T) {
	w := usual(t)
	all := chained(from, chain, someLists(5)...)
	w.laysAll(t, ring, all[:3])
	l := opens(t, w.m, ring, from, chain, all[:3])
	appends(t, l, all[3].Updates)
	next, link := behind(from, chain, all[:4])
	cuts(t, l, next+5, link, 5)
	opens(t, w.m, ring, from, chain, all[:4])
	opens(t, w.m, ring, next+5, link, nil)
}

// TestCutAtTheGreatestNumbers: the next number and Count are just 2^64 - 1, or one more; with each number of records.
func TestCutAtTheGreatestNumbers(t *testing.T) {
	for _, r := range []Ring{{0, 2}, {1, 3}, ring, {4, 8}, {0, 17}} {
		for n := range r.Count + 1 {
			for by := -3; by <= r.Count; by++ { // how far the last number that may be is passed
				w := usual(t)
				next := math.MaxUint64 - uint64(r.Count) - 3 + uint64(by+3)
				seq := next - uint64(n)
				l := opens(t, w.m, r, seq, chain, nil)
				lists := someLists(n)
				appends(t, l, lists...)
				_, link := behind(seq, chain, chained(seq, chain, lists...))
				tells(t, l, next, link, r.Count-n)
				if by <= 0 {
					cuts(t, l, next+uint64(r.Count), link, r.Count)
				}
				if by <= -r.Count {
					cuts(t, l, next+2*uint64(r.Count), link, r.Count)
				}
				if by <= 0 {
					refusesCut(t, l)
					continue
				}
				refusesCut(t, l)
				refusesCut(t, l)
				opens(t, w.m, r, seq, chain, chained(seq, chain, lists...))
				if n < r.Count && by < r.Count {
					appends(t, l, filled(room))
					refusesCut(t, l)
				}
			}
		}
	}
}

// TestALogThatCountsFromTheLastNumber: the chapter doesn't say what is behind it. No record of the log is overwritten, all are told, and no Cut may be.
func TestALogThatCountsFromTheLastNumber(t *testing.T) {
	for _, r := range []Ring{{0, 2}, {1, 3}, {2, 4}, ring, {4, 7}, {0, 17}} {
		for ahead := range uint64(r.Count) {
			w := usual(t)
			seq := math.MaxUint64 - ahead
			lists := someLists(r.Count)
			all := chained(seq, chain, lists...)
			l := opens(t, w.m, r, seq, chain, nil)
			for k := range lists {
				appends(t, l, lists[k])
				next, link := behind(seq, chain, all[:k+1])
				tells(t, l, next, link, r.Count-k-1)
				refusesCut(t, l)
				opens(t, w.m, r, seq, chain, all[:k+1])
			}
			told(t, "Append", l.Append(put("k", "v")), api.ErrFull)
			w.hasAll(t, r, all[:ahead+1])
		}
	}
}

// TestAppendBehindACut: round the ring several times, with each number of records between two Cuts; Open tells those alone.
func TestAppendBehindACut(t *testing.T) {
	for _, r := range []Ring{{0, 2}, {1, 3}, ring, {4, 8}} {
		for n := range r.Count + 1 {
			w := usual(t)
			l := opens(t, w.m, r, from, chain, nil)
			seq, link := uint64(from), uint32(chain)
			for round := range 4 * r.Count {
				lists := someLists(60)[round : round+(n+round)%(r.Count+1)]
				all := chained(seq, link, lists...)
				for k := range lists {
					appends(t, l, lists[k])
					opens(t, w.m, r, seq, link, all[:k+1])
				}
				w.hasAll(t, r, all)
				seq, link = behind(seq, link, all)
				seq += uint64(r.Count)
				cuts(t, l, seq, link, r.Count)
				opens(t, w.m, r, seq, link, nil)
			}
		}
	}
}

// TestBehindACutNoRecordOfBeforeIsThere: the ring is full of records, of which Open told only the first ones, as one of them was damaged; behind the Cut none is ever told, whatever is appended.
func TestBehindACutNoRecordOfBeforeIsThere(t *testing.T) {
	all := chained(from, chain, someLists(5)...)
	for k := range all {
		for n := range 6 {
			w := usual(t)
			w.laysAll(t, ring, all)
			for side := range remap.Sides {
				w.d[side].Garble(w.sector(side, blockOf(ring, all[k].Seq)), 40, 1)
			}
			l := opens(t, w.m, ring, from, chain, all[:k])
			next, link := behind(from, chain, all[:k])
			seq := next + 5
			cuts(t, l, seq, link, 5)
			opens(t, w.m, ring, seq, link, nil)
			want := chained(seq, link, someLists(9)[:n]...)
			for j, x := range want {
				appends(t, l, x.Updates)
				opens(t, w.m, ring, seq, link, want[:j+1])
			}
		}
	}
}

// TestTheSameUpdatesBehindACut: records of the same updates are others than those of before.
func TestTheSameUpdatesBehindACut(t *testing.T) {
	w := usual(t)
	l := opens(t, w.m, ring, from, chain, nil)
	seq, link := uint64(from), uint32(chain)
	for range 7 {
		lists := slices.Repeat([][]rec.Update{{put("k", "v")}}, 5)
		all := chained(seq, link, lists...)
		for k := range lists {
			appends(t, l, lists[k])
			opens(t, w.m, ring, seq, link, all[:k+1])
		}
		seq, link = behind(seq, link, all)
		seq += 5
		cuts(t, l, seq, link, 5)
		opens(t, w.m, ring, seq, link, nil)
	}
}
