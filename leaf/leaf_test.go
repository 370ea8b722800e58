package leaf

import (
	"cmp"
	"fmt"
	"slices"
	"strings"
	"testing"

	"treenail/api"
	"treenail/rec"
)

func put(key, value string) rec.Update { return rec.Update{Kind: rec.Put, Key: key, Value: value} }

func deletes(key string) rec.Update { return rec.Update{Kind: rec.Delete, Key: key} }

func add(key string, delta uint64) rec.Update {
	return rec.Update{Kind: rec.Add, Key: key, Delta: delta}
}

// risingKeys: neighbours differ in their last byte alone, in length alone, in bytes about 127 and at the ends, and in noughts.
func risingKeys() []string {
	return []string{
		"\x00",
		"\x00\x00",
		"\x00\x01",
		"\x00\xff",
		"\x01",
		"A",
		"a",
		"a\x00",
		"a\x00\x00",
		"a\x00b",
		"a\x01",
		"aa",
		"aaaaaaaaaaaaaaa",
		"aaaaaaaaaaaaaaaa",
		"aaaaaaaaaaaaaaab",
		"ab",
		"a\x7f",
		"a\x80",
		"a\xff",
		"a\xff\xff",
		"b",
		"z",
		"\x7f",
		"\x7f\xff",
		"\x80",
		"\x80\x00",
		"\xc3\xa4",
		"\xfe",
		"\xff",
		"\xff\x00",
		"\xff\xff",
		strings.Repeat("\xff", 16),
	}
}

// ofKeys: an entry of each, of values that are told apart; every third one is empty.
func ofKeys(keys ...string) []Entry {
	var l []Entry
	for k, key := range keys {
		value := ""
		if k%3 != 1 {
			value = fmt.Sprint("v", k)
		}
		l = append(l, Entry{key, value})
	}
	return l
}

// manyKeys: so many, rising.
func manyKeys(count int) []string {
	var keys []string
	for k := range count {
		keys = append(keys, fmt.Sprintf("k%05d", k))
	}
	return keys
}

func many(count int) []Entry { return ofKeys(manyKeys(count)...) }

func leafOf(t *testing.T, l ...Entry) Leaf {
	t.Helper()
	f, e := Of(l...)
	if e != api.OK {
		t.Fatalf("Of(%q): %v", l, e)
	}
	return f
}

// about: keys, their neighbours, and the ends of all texts.
func about(l []Entry) []string {
	keys := []string{"", "\x00", "m", strings.Repeat("\xff", 16), strings.Repeat("\xff", 400)}
	for _, x := range l {
		ahead, last := x.Key[:len(x.Key)-1], x.Key[len(x.Key)-1]
		keys = append(keys, x.Key, x.Key+"\x00", x.Key+"\xff", ahead)
		keys = append(keys, ahead+string([]byte{last - 1}), ahead+string([]byte{last + 1}), ahead+string([]byte{last - 1, 255}))
	}
	return keys
}

// has: it is the leaf of just these.
func has(t *testing.T, f Leaf, want ...Entry) {
	t.Helper()
	if f.Len() != len(want) || !slices.Equal(f.List(), want) {
		t.Errorf("%d: %q, not %d: %q", f.Len(), f.List(), len(want), want)
		return
	}
	if len(want) > 100 {
		hasEach(t, f, want)
		return
	}
	for _, key := range about(want) {
		k := slices.IndexFunc(want, func(x Entry) bool { return x.Key == key })
		if k < 0 {
			hasNot(t, f, key)
		} else {
			hasEach(t, f, want[k:k+1])
		}
	}
}

func hasEach(t *testing.T, f Leaf, l []Entry) {
	t.Helper()
	for _, x := range l {
		if value, ok := f.Get(x.Key); value != x.Value || !ok {
			t.Errorf("of %q: Get(%q) = %q, %v, not %q", f.List(), x.Key, value, ok, x.Value)
		}
	}
}

func hasNot(t *testing.T, f Leaf, key string) {
	t.Helper()
	if value, ok := f.Get(key); value != "" || ok {
		t.Errorf("of %q: Get(%q) = %q, %v", f.List(), key, value, ok)
	}
}

// isZero: it is as the zero Leaf is, and as good.
func isZero(t *testing.T, f Leaf) {
	t.Helper()
	has(t, f)
	if s, e := f.Text(); s != "" || e != api.OK {
		t.Errorf("Text() = %q, %v", s, e)
	}
	has(t, f.On(put("k", "v")), Entry{"k", "v"})
	has(t, f.On())
	for _, most := range []int{-1, 0, 1, 2} {
		parts := f.Parts(most)
		if len(parts) != 1 {
			t.Fatalf("Parts(%d): %d of them", most, len(parts))
		}
		has(t, parts[0])
	}
	has(t, f)
}

func refusesOf(t *testing.T, l ...Entry) {
	t.Helper()
	f, e := Of(l...)
	if e != api.ErrArg {
		t.Errorf("Of(%q): %v", l, e)
	}
	isZero(t, f)
}

// byKey: a list's order, of no two of one key.
func byKey(a, b Entry) int { return cmp.Compare(a.Key, b.Key) }

// P16.1: Of, Len, List, Get.

func TestTheZeroLeaf(t *testing.T) {
	isZero(t, Leaf{})
}

func TestOfNone(t *testing.T) {
	isZero(t, leafOf(t))
	isZero(t, leafOf(t, []Entry(nil)...))
	isZero(t, leafOf(t, []Entry{}...))
	isZero(t, leafOf(t, ofKeys("a", "b")[:0]...))
}

func TestOfOne(t *testing.T) {
	for _, key := range risingKeys() {
		for _, value := range []string{"", "v", "\x00", "\x80\xff", key, strings.Repeat("v", 32)} {
			has(t, leafOf(t, Entry{key, value}), Entry{key, value})
		}
	}
}

func TestOfMany(t *testing.T) {
	for _, count := range []int{2, 3, 10, 63, 64, 65, 1000, 20000} {
		l := many(count)
		f := leafOf(t, l...)
		has(t, f, l...)
		for _, key := range []string{"", "k", "k00000\x00", "k0000", "k99999", "z"} {
			hasNot(t, f, key)
		}
	}
	has(t, leafOf(t, ofKeys(risingKeys()...)...), ofKeys(risingKeys()...)...)
}

// TestOfEachPair: of keys.
func TestOfEachPair(t *testing.T) {
	keys := risingKeys()
	for i, a := range keys {
		for k, b := range keys {
			l := ofKeys(a, b)
			if i < k {
				has(t, leafOf(t, l...), l...)
			} else {
				refusesOf(t, l...)
			}
		}
	}
}

// TestOfRefusesNeighbours: that are alike, or fall, at each place of a list.
func TestOfRefusesNeighbours(t *testing.T) {
	for length := 2; length <= 9; length++ {
		for at := 1; at < length; at++ {
			alike := many(length)
			alike[at].Key = alike[at-1].Key
			refusesOf(t, alike...)
			alike[at] = alike[at-1]
			refusesOf(t, alike...)
			falls := many(length)
			falls[at], falls[at-1] = falls[at-1], falls[at]
			refusesOf(t, falls...)
		}
	}
	for _, at := range []int{1, 2500, 4999} {
		falls := many(5000)
		falls[at].Key = "k"
		refusesOf(t, falls...)
	}
	falling := many(5000)
	slices.Reverse(falling)
	refusesOf(t, falling...)
}

// TestOfEachList: of up to five of three keys.
func TestOfEachList(t *testing.T) {
	for length := range 6 {
		eachList([]string{"a", "a\x00", "b"}, length, func(keys []string) {
			l := ofKeys(keys...)
			if sorted := slices.Compact(slices.Sorted(slices.Values(keys))); slices.Equal(sorted, keys) {
				has(t, leafOf(t, l...), l...)
			} else {
				refusesOf(t, l...)
			}
		})
	}
}

// eachList calls a function with each list of so many of some.
func eachList[T any](of []T, length int, call func(l []T)) {
	if length == 0 {
		call(nil)
		return
	}
	eachList(of, length-1, func(l []T) {
		for _, x := range of {
			call(append(l[:len(l):len(l)], x))
		}
	})
}

// TestOfKeysOfEachLength: alone, at the front, in the middle and at the end. All but the empty one rise.
func TestOfKeysOfEachLength(t *testing.T) {
	for _, length := range []int{0, 1, 2, 15, 16, 17, 18, 32, 255, 256, 257, 272, 300} {
		for place, first := range map[int]string{0: "a", 2: "e", 4: "z"} {
			key := (first + strings.Repeat("\x80", length))[:length]
			l := slices.Insert(ofKeys("c", "d", "x", "y"), place, Entry{key, first})
			for _, l := range [][]Entry{l, l[place : place+1]} {
				if 1 <= length && length <= 16 {
					has(t, leafOf(t, l...), l...)
				} else {
					refusesOf(t, l...)
				}
			}
		}
	}
}

// TestOfValuesOfEachLength: at the front, in the middle and at the end.
func TestOfValuesOfEachLength(t *testing.T) {
	for _, length := range []int{0, 1, 7, 8, 9, 31, 32, 33, 64, 255, 256, 257, 288, 1000} {
		for _, at := range []int{0, 3, 6} {
			l := many(7)
			l[at].Value = strings.Repeat("\x80", length)
			if length <= 32 {
				has(t, leafOf(t, l...), l...)
				has(t, leafOf(t, l[at]), l[at])
			} else {
				refusesOf(t, l...)
				refusesOf(t, l[at])
			}
		}
	}
}

// TestOfTheGreatest: as many entries of the greatest keys and values as a leaf of a store may have, and more.
func TestOfTheGreatest(t *testing.T) {
	for _, count := range []int{api.MaxLeaf - 1, api.MaxLeaf, api.MaxLeaf + 1, api.MaxLeaf + api.MaxBuffer} {
		var l []Entry
		for k := range count {
			l = append(l, Entry{fmt.Sprintf("%016d", k), strings.Repeat("v", 32)})
		}
		has(t, leafOf(t, l...), l...)
	}
}

// TestGetOfEachPlace: of the keys of each choice of some, and of those between.
func TestGetOfEachPlace(t *testing.T) {
	all := ofKeys("a", "a\x00", "aa", "b", "\x7f", "\x80", "\xff")
	for choice := range 1 << len(all) {
		var l []Entry
		for k, x := range all {
			if choice>>k&1 == 1 {
				l = append(l, x)
			}
		}
		f := leafOf(t, l...)
		has(t, f, l...)
		for k, x := range all {
			if choice>>k&1 == 0 {
				hasNot(t, f, x.Key)
			}
		}
	}
}

// TestGetOfAnEmptyValue: which is there, beside one that isn't.
func TestGetOfAnEmptyValue(t *testing.T) {
	f := leafOf(t, Entry{"a", ""}, Entry{"c", ""})
	if value, ok := f.Get("a"); value != "" || !ok {
		t.Errorf("%q, %v", value, ok)
	}
	if value, ok := f.Get("b"); value != "" || ok {
		t.Errorf("%q, %v", value, ok)
	}
	if value, ok := f.Get(""); value != "" || ok {
		t.Errorf("%q, %v", value, ok)
	}
}

// TestWhatLiesBehindAListIsNotRead: nor written.
func TestWhatLiesBehindAListIsNotRead(t *testing.T) {
	for _, behind := range []string{"a", "c", "d", ""} {
		l := ofKeys("a", "b", "c", behind)
		f := leafOf(t, l[:3]...)
		has(t, f, ofKeys("a", "b", "c")...)
		f.On(put("bb", "v"), put("x", "v"), deletes("a"))
		if !slices.Equal(l, ofKeys("a", "b", "c", behind)) {
			t.Errorf("%q", l)
		}
	}
	l := []Entry{{"a", "v"}, {strings.Repeat("b", 17), ""}}
	has(t, leafOf(t, l[:1]...), l[0])
}

func overwrite(l []Entry) {
	l = l[:cap(l)]
	for k := range l {
		l[k] = Entry{"overwritten", "w"}
	}
}

// TestListsAreNotShared: neither the one that is handed in, nor those that are told.
func TestListsAreNotShared(t *testing.T) {
	for length := range 9 {
		want := many(length)
		l := append(make([]Entry, 0, 20), want...)
		f := leafOf(t, l...)
		twin := leafOf(t, l...)
		overwrite(l)
		has(t, f, want...)
		first, second := f.List(), f.List()
		overwrite(first)
		if !slices.Equal(second, want) {
			t.Errorf("%q, not %q", second, want)
		}
		has(t, f, want...)
		overwrite(second)
		has(t, f, want...)
		has(t, twin, want...)
		has(t, f.On(put("a", "")), append([]Entry{{"a", ""}}, want...)...)
	}
}

// TestListsOfOtherLeavesAreNotShared: of those that came of one another.
func TestListsOfOtherLeavesAreNotShared(t *testing.T) {
	for length := range 9 {
		want := many(length)
		f := leafOf(t, want...)
		same, more := f.On(), f.On(put("z", "v"))
		parsed, e := Parse(textOf(want))
		if e != api.OK {
			t.Fatal(e)
		}
		parts := f.Parts(100)
		for _, x := range append([]Leaf{f, same, more, parsed}, parts...) {
			overwrite(x.List())
		}
		for _, x := range append([]Leaf{f, same, parsed}, parts...) {
			has(t, x, want...)
		}
		has(t, more, append(slices.Clone(want), Entry{"z", "v"})...)
	}
}

func TestAnswersAreTheSameEachTime(t *testing.T) {
	l := ofKeys(risingKeys()...)
	f := leafOf(t, l...)
	for range 3 {
		has(t, f, l...)
		has(t, leafOf(t, l...), l...)
	}
}
