package leaf

import (
	"math"
	"slices"
	"testing"

	"treenail/api"
)

// lengths: of the parts.
func lengths(parts []Leaf) []int {
	var l []int
	for _, p := range parts {
		l = append(l, p.Len())
	}
	return l
}

// together: all entries of the parts, in order.
func together(parts []Leaf) []Entry {
	var l []Entry
	for _, p := range parts {
		l = append(l, p.List()...)
	}
	return l
}

// fewest: how many parts there are at least, found by counting: none has more than most, and there is one of no entry.
func fewest(length, most int) int {
	count := 1
	for room := most; room < length; room += most {
		count++
	}
	return count
}

// isParted: into the fewest, as even as can be, the longer ones first, with all entries in order.
func isParted(t *testing.T, f Leaf, most int) {
	t.Helper()
	want := f.List()
	parts := f.Parts(most)
	count := fewest(len(want), max(1, most))
	if len(parts) != count || !slices.Equal(together(parts), want) {
		t.Fatalf("Parts(%d) of %d: %v, not %d parts", most, len(want), lengths(parts), count)
	}
	at, shorter := 0, count-len(want)%count
	for k, p := range parts {
		length := len(want) / count
		if k < count-shorter {
			length++
		}
		if p.Len() != length || length > max(1, most) {
			t.Errorf("Parts(%d) of %d: %v", most, len(want), lengths(parts))
		}
		if !slices.Equal(p.List(), want[at:at+length]) {
			t.Errorf("Parts(%d) of %q: %q", most, want, p.List())
		}
		at += length
	}
	if !slices.Equal(f.List(), want) || f.Len() != len(want) {
		t.Errorf("%q, not %q", f.List(), want)
	}
}

// P16.2: Parts.

func TestPartsOfTheExample(t *testing.T) {
	f := leafOf(t, ofKeys("a", "b", "c", "d", "e")...)
	if l := lengths(f.Parts(2)); !slices.Equal(l, []int{2, 2, 1}) {
		t.Errorf("%v", l)
	}
}

// TestPartsOfSome: written out.
func TestPartsOfSome(t *testing.T) {
	for _, x := range []struct {
		length, most int
		want         []int
	}{
		{0, 1, []int{0}},
		{0, 5, []int{0}},
		{1, 1, []int{1}},
		{1, 5, []int{1}},
		{2, 1, []int{1, 1}},
		{2, 2, []int{2}},
		{3, 2, []int{2, 1}},
		{4, 3, []int{2, 2}},
		{5, 3, []int{3, 2}},
		{5, 4, []int{3, 2}},
		{7, 3, []int{3, 2, 2}},
		{8, 3, []int{3, 3, 2}},
		{9, 4, []int{3, 3, 3}},
		{10, 4, []int{4, 3, 3}},
		{11, 4, []int{4, 4, 3}},
		{13, 4, []int{4, 3, 3, 3}},
		{64, 64, []int{64}},
		{65, 64, []int{33, 32}},
		{128, 64, []int{64, 64}},
		{129, 64, []int{43, 43, 43}},
		{130, 64, []int{44, 43, 43}},
	} {
		if l := lengths(leafOf(t, many(x.length)...).Parts(x.most)); !slices.Equal(l, x.want) {
			t.Errorf("Parts(%d) of %d: %v, not %v", x.most, x.length, l, x.want)
		}
	}
}

// TestPartsOfEachLength: and for each most, to more than there are.
func TestPartsOfEachLength(t *testing.T) {
	for length := range 70 {
		f := leafOf(t, many(length)...)
		for most := -3; most <= length+3; most++ {
			isParted(t, f, most)
		}
	}
	f := leafOf(t, many(5000)...)
	for _, most := range []int{1, 2, 3, 63, 64, 65, 2499, 2500, 2501, 4999, 5000, 5001} {
		isParted(t, f, most)
	}
}

// TestPartsOfAnyMost: the least and the greatest int are taken, too; below 1 is as 1.
func TestPartsOfAnyMost(t *testing.T) {
	for _, length := range []int{0, 1, 2, 3, 64} {
		f := leafOf(t, many(length)...)
		for _, most := range []int{math.MinInt, math.MinInt + 1, -1 << 32, -65, -1, 0} {
			if got, want := lengths(f.Parts(most)), lengths(f.Parts(1)); !slices.Equal(got, want) {
				t.Errorf("Parts(%d) of %d: %v, not %v", most, length, got, want)
			}
		}
		for _, most := range []int{1 << 31, 1<<32 + 1, math.MaxInt - 64, math.MaxInt - 1, math.MaxInt} {
			if l := lengths(f.Parts(most)); !slices.Equal(l, []int{length}) {
				t.Errorf("Parts(%d) of %d: %v", most, length, l)
			}
		}
	}
}

// TestPartsAreLeaves: as good as those that Of makes of their entries.
func TestPartsAreLeaves(t *testing.T) {
	for _, l := range [][]Entry{ofKeys(risingKeys()...), many(10)} {
		for most := 1; most <= len(l)+1; most++ {
			for _, p := range leafOf(t, l...).Parts(most) {
				has(t, p, p.List()...)
				reads(t, p, p.List()...)
				has(t, p.On(put("m", "v")), madeByKey(p.List(), []update{put("m", "v")})...)
			}
		}
	}
	isZero(t, Leaf{}.Parts(3)[0])
	isZero(t, leafOf(t, many(3)...).On(deletes("k00000"), deletes("k00001"), deletes("k00002")).Parts(1)[0])
}

// TestPartsAreNotShared: neither the list, nor what the parts have; each goes on apart.
func TestPartsAreNotShared(t *testing.T) {
	want := many(9)
	f := leafOf(t, want...)
	for most := 1; most <= 10; most++ {
		first, second := f.Parts(most), f.Parts(most)
		for k := range first {
			overwrite(first[k].List())
			first[k] = first[k].On(put("k00000\x00", "v"), put("z", "v"), deletes("k00004"))
		}
		clear(first[:cap(first)])
		if !slices.Equal(together(second), want) {
			t.Errorf("%q", together(second))
		}
		has(t, f, want...)
	}
}

// TestPartsOfALeafThatGoesOn: they stay as they were.
func TestPartsOfALeafThatGoesOn(t *testing.T) {
	want := many(9)
	f := leafOf(t, want...)
	parts := f.Parts(4)
	g := f.On(put("k00000", "new"), deletes("k00004"), put("z", "v"))
	for _, p := range parts {
		p.On(put("k00000", "other"), deletes("k00003"), put("z", "w"))
	}
	has(t, g, append([]Entry{{"k00000", "new"}, want[1], want[2], want[3]}, append(want[5:9:9], Entry{"z", "v"})...)...)
	if !slices.Equal(together(parts), many(9)) {
		t.Errorf("%q", together(parts))
	}
	has(t, f, many(9)...)
}

// TestPartsOfParts: none is parted any more by the same most.
func TestPartsOfParts(t *testing.T) {
	f := leafOf(t, many(23)...)
	for most := 1; most <= 24; most++ {
		for _, p := range f.Parts(most) {
			again := p.Parts(most)
			if len(again) != 1 {
				t.Fatalf("%d", len(again))
			}
			has(t, again[0], p.List()...)
			if whole, e := Of(p.List()...); e != api.OK || whole.Len() != p.Len() {
				t.Errorf("%d, %v", whole.Len(), e)
			}
		}
	}
}
