package wal

import (
	"math"
	"slices"
	"strings"
	"testing"

	"treenail/api"
	"treenail/dev"
	"treenail/rec"
	"treenail/remap"
)

// P13.1: what is there.

func TestOpenOfARingWithoutRecords(t *testing.T) {
	for _, page := range []string{"", strings.Repeat("\xff", 128), strings.Repeat("TRNL", 32), sealed(128, 1, 0, 1, "a superblock's")} {
		for _, seq := range append([]uint64{math.MaxUint64 - 1, math.MaxUint64}, starts...) {
			for _, first := range []uint32{0, chain, math.MaxUint32} {
				w := usual(t)
				for block := range blocks {
					for side := range remap.Sides {
						if page != "" {
							w.lays(t, side, block, page)
						}
					}
				}
				before, done := w.sectors(), w.done()
				opens(t, w.m, ring, seq, first, nil)
				w.stays(t, before)
				if w.done() != done || w.m.Repairs() != 0 {
					t.Error("Open wrote")
				}
			}
		}
	}
}

// TestOpenOfSomeRecords: of none up to as many as the ring has blocks, wherever the log counts from; each by the numbers alone in its block.
func TestOpenOfSomeRecords(t *testing.T) {
	for _, r := range []Ring{{0, 2}, {1, 3}, {2, 4}, ring, {4, 7}, {5, 8}, {0, 17}} {
		for _, seq := range starts {
			for n := range r.Count + 1 {
				if seq > math.MaxUint64-uint64(r.Count) {
					continue
				}
				w := usual(t)
				want := chained(seq, chain, someLists(n)...)
				w.laysAll(t, r, want)
				before, done := w.sectors(), w.done()
				opens(t, w.m, r, seq, chain, want)
				w.stays(t, before)
				if w.done() != done || w.m.Repairs() != 0 {
					t.Error("Open of whole copies wrote")
				}
			}
		}
	}
}

// TestOpenOfTheLargestRing: with all records, and with all but one.
func TestOpenOfTheLargestRing(t *testing.T) {
	w := made(t, dev.Shape{Sectors: 300, Size: 192}, 0)
	r := Ring{9, 256}
	for _, seq := range []uint64{0, 255, 256, 1000, math.MaxUint64 - 600} {
		want := chained(seq, chain, someLists(256)...)
		w.laysAll(t, r, want[:255])
		opens(t, w.m, r, seq, chain, want[:255])
		w.laysAll(t, r, want)
		opens(t, w.m, r, seq, chain, want)
	}
}

// TestOpenInTheMiddle: from each record on, by what the one ahead links by; and from behind the last one.
func TestOpenInTheMiddle(t *testing.T) {
	w := usual(t)
	all := chained(from, chain, someLists(5)...)
	w.laysAll(t, ring, all)
	for k, x := range all {
		opens(t, w.m, ring, x.Seq, x.Chain, all[k:])
	}
	seq, link := behind(from, chain, all)
	opens(t, w.m, ring, seq, link, nil)
}

// TestOpenByAnotherNumberOrCheck: by a check with one bit another one, or another number, there is no record.
func TestOpenByAnotherNumberOrCheck(t *testing.T) {
	w := usual(t)
	all := chained(from, chain, someLists(5)...)
	w.laysAll(t, ring, all)
	for bit := range 32 {
		opens(t, w.m, ring, from, chain^1<<bit, nil)
	}
	for bit := range 64 {
		opens(t, w.m, ring, from^1<<bit, chain, nil)
	}
	for by := -12; by <= 12; by++ {
		if by != 0 {
			opens(t, w.m, ring, uint64(from+by), chain, nil)
		}
	}
	opens(t, w.m, ring, 0, 0, nil)
	opens(t, w.m, ring, from+1, chain, nil)
	opens(t, w.m, ring, from, all[1].Chain, nil)
}

// TestOpenOfAnotherRing: the blocks are there, but they aren't those of this ring's records.
func TestOpenOfAnotherRing(t *testing.T) {
	w := usual(t)
	all := chained(from, chain, someLists(5)...)
	w.laysAll(t, ring, all)
	for first := range 8 {
		for count := 2; count < 10; count++ {
			r := Ring{first, count}
			want := 0
			for want < 5 && want < count && blockOf(r, all[want].Seq) == blockOf(ring, all[want].Seq) {
				want++
			}
			opens(t, w.m, r, from, chain, all[:want])
		}
	}
}

// TestARecordThatWasOverwritten: by the one that is Count further, as if the ring had gone round.
func TestARecordThatWasOverwritten(t *testing.T) {
	w := usual(t)
	all := chained(from, chain, someLists(12)...)
	w.laysAll(t, ring, all)
	for k, x := range all {
		if k < 7 {
			opens(t, w.m, ring, x.Seq, x.Chain, nil)
		} else {
			opens(t, w.m, ring, x.Seq, x.Chain, all[k:])
		}
	}
}

// TestOpenOfARecordOfNoUpdates: no Append writes one, but it is a record.
func TestOpenOfARecordOfNoUpdates(t *testing.T) {
	w := usual(t)
	all := chained(from, chain, nil, someLists(1)[0], nil)
	w.laysAll(t, ring, all)
	opens(t, w.m, ring, from, chain, all)
}

// TestOpenOfSizes: blocks of each size, with records of as many bytes as there is room for.
func TestOpenOfSizes(t *testing.T) {
	for size := 128; size <= 1024; size += 64 {
		w := made(t, dev.Shape{Sectors: 16, Size: size}, 1)
		r := Ring{4, 3}
		all := chained(from, chain, filled(size-38), []rec.Update{erase("k")}, filled(size-39))
		w.laysAll(t, r, all)
		opens(t, w.m, r, from, chain, all)
	}
}

// A wrong is an image that isn't a record's, where that record's would be.
type wrong struct {
	name, image string
}

// at: the same with another byte.
func at(s string, place int, by byte) string {
	return s[:place] + string([]byte{s[place] ^ by}) + s[place+1:]
}

// noRecords: for the record x of a ring; the elder and the next one are whole ones.
func noRecords(r Ring, x rec.Record) []wrong {
	block, payload := blockOf(r, x.Seq), recordBytes(x)
	seal := func(kind byte, addr int, gen uint64, payload string) string {
		return sealed(128, kind, addr, gen, payload)
	}
	of := func(y rec.Record) string { return seal(3, block, y.Seq, recordBytes(y)) }
	count := uint64(r.Count)
	list := []wrong{
		{"noughts", strings.Repeat("\x00", 128)}, {"no image", strings.Repeat("z", 128)},
		{"an elder record", of(rec.Record{Seq: x.Seq - count, Chain: x.Chain, Updates: x.Updates})}, {"a later record", of(rec.Record{Seq: x.Seq + count, Chain: x.Chain, Updates: x.Updates})},
		{"the number above", of(rec.Record{Seq: x.Seq + 1, Chain: x.Chain, Updates: x.Updates})}, {"the number below", of(rec.Record{Seq: x.Seq - 1, Chain: x.Chain, Updates: x.Updates})},
		{"another number in its high bits", of(rec.Record{Seq: x.Seq ^ 1<<63, Chain: x.Chain, Updates: x.Updates})},
		{"another Gen", seal(3, block, x.Seq+1, payload)}, {"an elder Gen", seal(3, block, x.Seq-count, payload)}, {"another Gen in its high bits", seal(3, block, x.Seq^1<<40, payload)},
		{"another Seq", seal(3, block, x.Seq, recordBytes(rec.Record{Seq: x.Seq + 1, Chain: x.Chain, Updates: x.Updates}))}, {"an elder Seq", seal(3, block, x.Seq, recordBytes(rec.Record{Seq: x.Seq - count, Chain: x.Chain, Updates: x.Updates}))},
		{"another Chain", of(rec.Record{Seq: x.Seq, Chain: x.Chain ^ 1, Updates: x.Updates})}, {"another Chain in its high bits", of(rec.Record{Seq: x.Seq, Chain: x.Chain ^ 1<<31, Updates: x.Updates})}, {"what it links by as its Chain", of(rec.Record{Seq: x.Seq, Chain: linkOf(x), Updates: x.Updates})},
		{"the Kind Super", seal(1, block, x.Seq, payload)}, {"the Kind Table", seal(2, block, x.Seq, payload)}, {"the Kind Leaf", seal(4, block, x.Seq, payload)}, {"the Kind Node", seal(5, block, x.Seq, payload)}, {"the Kind 0", seal(0, block, x.Seq, payload)}, {"the Kind 6", seal(6, block, x.Seq, payload)},
		{"the Addr above", seal(3, block+1, x.Seq, payload)}, {"the Addr below", seal(3, block-1, x.Seq, payload)}, {"the Addr 0", seal(3, 0, x.Seq, payload)}, {"the place in the ring as the Addr", seal(3, block-r.First, x.Seq, payload)}, {"another Addr in its high bits", seal(3, block^1<<30, x.Seq, payload)},
		{"no payload", seal(3, block, x.Seq, "")}, {"a payload without its end", seal(3, block, x.Seq, payload[:len(payload)-1])}, {"half a head", seal(3, block, x.Seq, payload[:13])}, {"a head alone", seal(3, block, x.Seq, payload[:14])},
		{"an update too few", seal(3, block, x.Seq, at(payload, 12, byte(len(x.Updates))^byte(len(x.Updates)+1)))}, {"too many updates in their high byte", seal(3, block, x.Seq, at(payload, 13, 1))},
		{"a Kind of update that is none", seal(3, block, x.Seq, at(payload, 14, 0x40))}, {"no Key", seal(3, block, x.Seq, recordBytes(rec.Record{Seq: x.Seq, Chain: x.Chain, Updates: []rec.Update{{Kind: rec.Put}}}))},
		{"a Key that is too long", seal(3, block, x.Seq, recordBytes(rec.Record{Seq: x.Seq, Chain: x.Chain, Updates: []rec.Update{put(strings.Repeat("k", 17), "")}}))},
	}
	if len(payload) < 104 {
		list = append(list, wrong{"a byte more", seal(3, block, x.Seq, payload+"\x00")})
	}
	if x.Chain != 0 {
		list = append(list, wrong{"a Chain of 0", of(rec.Record{Seq: x.Seq, Updates: x.Updates})})
	}
	whole := seal(3, block, x.Seq, payload)
	for _, place := range []int{0, 1, 2, 3, 4, 5, 6, 7, 8, 11, 12, 19, 20, 21, 22, 23, 24, 31, 32, 36, 37, 38, 24 + len(payload) - 1, 127} {
		list = append(list, wrong{"a byte garbled", at(whole, place, 1<<(place%8))})
	}
	return list
}

// aFew: four records, which leave one block of the ring.
func aFew() []rec.Record { return chained(from, chain, someLists(4)...) }

// aFewFromNought: the first one's number and Chain are those of a record of which nothing is known.
func aFewFromNought() []rec.Record { return chained(0, 0, someLists(4)...) }

// TestBothCopiesAreNoRecord: Open ends ahead of it, and what both copies are there and behind it stays.
func TestBothCopiesAreNoRecord(t *testing.T) {
	for _, all := range [][]rec.Record{aFew(), aFewFromNought()} {
		for k, x := range all {
			block := blockOf(ring, x.Seq)
			list := noRecords(ring, x)
			for j, first := range list {
				t.Run(first.name, func(t *testing.T) {
					w := usual(t)
					w.laysAll(t, ring, all)
					w.lays(t, 0, block, first.image)
					w.lays(t, 1, block, list[(3*j+k)%len(list)].image)
					before, done := w.sectors(), w.done()
					opens(t, w.m, ring, all[0].Seq, all[0].Chain, all[:k])
					w.stays(t, before)
					if w.done() != done || w.m.Repairs() != 0 {
						t.Error("Open wrote")
					}
				})
			}
		}
	}
}

// TestOneCopyIsNoRecord: the record is there by the other one; it is healed, and nothing else is written. So of a first image that is the record's with another Chain, and a second one that is the right one.
func TestOneCopyIsNoRecord(t *testing.T) {
	all := aFew()
	for _, x := range all {
		block := blockOf(ring, x.Seq)
		for _, other := range noRecords(ring, x) {
			for side := range remap.Sides {
				t.Run(other.name, func(t *testing.T) {
					w := usual(t)
					w.laysAll(t, ring, all)
					want, done := w.sectors(), w.done()
					w.lays(t, side, block, other.image)
					opens(t, w.m, ring, from, chain, all)
					w.stays(t, want)
					done[side][0] += 2
					if w.done() != done || w.m.Repairs() != 1 {
						t.Errorf("%v, not %v; %d repairs", w.done(), done, w.m.Repairs())
					}
				})
			}
		}
	}
}

// TestOneCopyOfEachRecordIsDamaged: on whichever sides; behind Open all are whole.
func TestOneCopyOfEachRecordIsDamaged(t *testing.T) {
	all := chained(from, chain, someLists(5)...)
	for sides := range 1 << len(all) {
		for kind := range 3 {
			w := usual(t)
			w.laysAll(t, ring, all)
			var moved [remap.Sides][]int
			for k, x := range all {
				side, block := sides>>k&1, blockOf(ring, x.Seq)
				switch (kind + k) % 3 {
				case 0:
					w.d[side].Garble(w.sector(side, block), 7*k, 0x55)
				case 1:
					w.lays(t, side, block, strings.Repeat("\x00", 128))
				case 2:
					if w.p.Table(side).Left() > len(moved[side]) {
						w.d[side].Stick(w.sector(side, block))
						moved[side] = append(moved[side], block)
					} else {
						w.d[side].Garble(w.sector(side, block), 127, 1)
					}
				}
			}
			opens(t, w.m, ring, from, chain, all)
			w.hasAll(t, ring, all)
			if w.m.Repairs() != len(all) {
				t.Errorf("%d repairs", w.m.Repairs())
			}
			for side, want := range moved {
				slices.Sort(want)
				if got := w.p.Table(side).Moved(); !slices.Equal(got, want) {
					t.Errorf("of the side %d the blocks %v were moved, not %v", side, got, want)
				}
			}
		}
	}
}

// TestBothCopiesInTheMiddleAreDamaged: in unlike ways; the records ahead are there, and healed, those behind aren't, nor are they healed.
func TestBothCopiesInTheMiddleAreDamaged(t *testing.T) {
	all := chained(from, chain, someLists(5)...)
	for k, x := range all {
		for _, stuck := range [][2]bool{{false, false}, {true, false}, {false, true}, {true, true}} {
			w := made(t, shape, 0)
			w.laysAll(t, ring, all)
			for j, y := range all {
				if j != k {
					w.d[j%2].Garble(w.sector(j%2, blockOf(ring, y.Seq)), 24, 1)
				}
			}
			want := w.sectors()
			for side := range remap.Sides {
				i := w.sector(side, blockOf(ring, x.Seq))
				if stuck[side] {
					w.d[side].Stick(i)
				} else {
					w.d[side].Garble(i, 60, 2)
				}
				want[side][i], _ = w.d[side].Read(i)
			}
			for j, y := range all[:k] {
				want[j%2][w.sector(j%2, blockOf(ring, y.Seq))] = imageOf(128, ring, y)
			}
			opens(t, w.m, ring, from, chain, all[:k])
			w.stays(t, want)
			if w.m.Repairs() != k {
				t.Errorf("%d repairs, not %d", w.m.Repairs(), k)
			}
		}
	}
}

// TestTwoRecordsWithOneNumberAndChain: the first image is the one that is found, and both copies are it.
func TestTwoRecordsWithOneNumberAndChain(t *testing.T) {
	first := rec.Record{Seq: from, Chain: chain, Updates: []rec.Update{put("a", "1")}}
	second := rec.Record{Seq: from, Chain: chain, Updates: []rec.Update{put("a", "2")}}
	for _, gone := range []bool{false, true} {
		w := usual(t)
		block := blockOf(ring, from)
		w.lays(t, 0, block, imageOf(128, ring, first))
		w.lays(t, 1, block, imageOf(128, ring, second))
		if gone {
			w.d[0].Kill()
			opens(t, w.m, ring, from, chain, []rec.Record{second})
			continue
		}
		opens(t, w.m, ring, from, chain, []rec.Record{first})
		w.hasAll(t, ring, []rec.Record{first})
		if w.m.Repairs() != 1 {
			t.Errorf("%d repairs", w.m.Repairs())
		}
	}
}

// TestTheNextOneLinksByTheImageThatIsFound: a second record is behind the first image, not behind the other one.
func TestTheNextOneLinksByTheImageThatIsFound(t *testing.T) {
	first := chained(from, chain, []rec.Update{put("a", "1")}, []rec.Update{put("b", "1")})
	second := chained(from, chain, []rec.Update{put("a", "2")}, []rec.Update{put("b", "2")})
	w := usual(t)
	w.laysAll(t, ring, first)
	w.lays(t, 1, blockOf(ring, from), imageOf(128, ring, second[0]))
	opens(t, w.m, ring, from, chain, first)
	w.hasAll(t, ring, first)
	w = usual(t)
	w.laysAll(t, ring, second)
	w.lays(t, 0, blockOf(ring, from), imageOf(128, ring, first[0]))
	opens(t, w.m, ring, from, chain, first[:1])
}

// TestOpenWithABadSectorAndNoSpare: the copy can't be healed, and that is no error.
func TestOpenWithABadSectorAndNoSpare(t *testing.T) {
	for side := range remap.Sides {
		w := made(t, shape, 0)
		all := chained(from, chain, someLists(5)...)
		w.laysAll(t, ring, all)
		block := blockOf(ring, all[2].Seq)
		w.d[side].Stick(slots + block)
		w.d[1-side].Garble(slots+block+1, 3, 3)
		opens(t, w.m, ring, from, chain, all)
		var want [2]string
		want[1-side] = imageOf(128, ring, all[2])
		w.has(t, block, want)
		w.hasAll(t, ring, append(all[:2:2], all[3:]...))
		if w.m.Repairs() != 1 || len(w.m.Bad()) != 1 {
			t.Errorf("%d repairs, bad are %v", w.m.Repairs(), w.m.Bad())
		}
	}
}

// TestOpenWithASideGone: the other one's records are there, as far as they are whole there.
func TestOpenWithASideGone(t *testing.T) {
	for side := range remap.Sides {
		w := usual(t)
		all := chained(from, chain, someLists(5)...)
		w.laysAll(t, ring, all)
		w.d[side].Garble(w.sector(side, blockOf(ring, all[1].Seq)), 30, 1)
		w.d[side].Kill()
		done := w.done()
		opens(t, w.m, ring, from, chain, all)
		if w.done() != done || w.m.Repairs() != 0 {
			t.Error("Open wrote")
		}
		w.d[1-side].Garble(w.sector(1-side, blockOf(ring, all[3].Seq)), 30, 1)
		opens(t, w.m, ring, from, chain, all[:3])
		w.d[1-side].Kill()
		opens(t, w.m, ring, from, chain, nil)
	}
}

// TestOpenOfAReplacedDevice: it has none of the records, and gets them.
func TestOpenOfAReplacedDevice(t *testing.T) {
	for side := range remap.Sides {
		w := usual(t)
		all := chained(from, chain, someLists(5)...)
		l := opens(t, w.m, ring, from, chain, nil)
		appends(t, l, someLists(3)...)
		w.d[side] = device(t, shape)
		told(t, "Replace", w.p.Replace(side, w.d[side]), api.OK)
		opens(t, w.m, ring, from, chain, all[:3])
		w.hasAll(t, ring, all[:3])
		appends(t, l, someLists(5)[3:]...)
		w.hasAll(t, ring, all)
	}
}

// P13.1: the errors of Images and of Heal.

func TestOpenWithoutPower(t *testing.T) {
	for side := range remap.Sides {
		for n := range 6 {
			w := usual(t)
			w.laysAll(t, ring, chained(from, chain, someLists(5)...)[:n])
			off(t, w.d[side])
			refusesOpen(t, w.m, ring, api.ErrPower)
			w.d[1-side].Kill()
			refusesOpen(t, w.m, ring, api.ErrPower)
			w.d[side].Kill()
			opens(t, w.m, ring, from, chain, nil)
		}
	}
}

// TestThePowerOfASideThatIsGone: it is passed over, and its power isn't told.
func TestThePowerOfASideThatIsGone(t *testing.T) {
	for side := range remap.Sides {
		w := usual(t)
		all := chained(from, chain, someLists(5)...)
		w.laysAll(t, ring, all)
		off(t, w.d[side])
		w.d[side].Kill()
		opens(t, w.m, ring, from, chain, all)
	}
}

// toHeal: five records, of which each has one copy that isn't whole: two are at bad sectors, so that their tables are kept, too.
func toHeal(t *testing.T) (*world, []rec.Record) {
	t.Helper()
	w := usual(t)
	all := chained(from, chain, someLists(5)...)
	w.laysAll(t, ring, all)
	for k, x := range all {
		side, block := k%2, blockOf(ring, x.Seq)
		if k == 1 || k == 2 {
			w.d[side].Stick(w.sector(side, block))
		} else {
			w.d[side].Garble(w.sector(side, block), 20*k, 9)
		}
	}
	return w, all
}

// TestThePowerFailsInOpen: at each write and flush of each device; ErrPower is told, and nothing beside it. Behind the crash all records are there, whatever was kept.
func TestThePowerFailsInOpen(t *testing.T) {
	struck := 0
	for side := range remap.Sides {
		for n := 1; ; n++ {
			ended := false
			for _, fates := range fateLists() {
				w, all := toHeal(t)
				w.d[side].Fuse(n)
				l, list, e := Open(w.m, ring, from, chain)
				if e == api.OK {
					ended = true
					break
				}
				if l != nil || len(list) != 0 || e != api.ErrPower {
					t.Fatalf("Open: %v, %v, %v", l, list, e)
				}
				struck++
				w.d[0].Crash(fates)
				w.d[1].Crash(slices.Concat(fates[1:], fates))
				w.again(t, spares)
				opens(t, w.m, ring, from, chain, all)
				w.hasAll(t, ring, all)
			}
			if ended {
				break
			}
		}
	}
	if struck < 100 {
		t.Errorf("only %d fuses struck", struck)
	}
}

// TestOpenBehindAFailedOpen: with the power on again, of the same mirror, too.
func TestOpenBehindAFailedOpen(t *testing.T) {
	for side := range remap.Sides {
		for n := 1; n < 6; n++ {
			w, all := toHeal(t)
			w.d[side].Fuse(n)
			if _, _, e := Open(w.m, ring, from, chain); e == api.OK {
				continue
			}
			refusesOpen(t, w.m, ring, api.ErrPower)
			w.d[side].Crash(slices.Repeat([]dev.Fate{dev.Keep}, 20))
			opens(t, w.m, ring, from, chain, all)
			w.hasAll(t, ring, all)
		}
	}
}
