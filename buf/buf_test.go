package buf

import (
	"cmp"
	"fmt"
	"math"
	"slices"
	"strings"
	"testing"

	"treenail/api"
	"treenail/rec"
)

func put(key, value string) rec.Update { return rec.Update{Kind: rec.Put, Key: key, Value: value} }

func deletes(key string) rec.Update { return rec.Update{Kind: rec.Delete, Key: key} }

func add(key string, delta uint64) rec.Update {
	return rec.Update{Kind: rec.Add, Key: key, Delta: delta}
}

// risingKeys: neighbours differ in their last byte alone, in length alone, in bytes about 127 and at the ends, and in noughts; some are no keys of updates that may be.
func risingKeys() []string {
	return []string{
		"",
		"\x00",
		"\x00\x00",
		"\x00\x01",
		"\x00\xff",
		"\x01",
		"A",
		"a",
		"a\x00",
		"a\x00\x00",
		"a\x00b",
		"a\x01",
		"aa",
		"aaaaaaaaaaaaaaaa",
		"aaaaaaaaaaaaaaaaa",
		"aaaaaaaaaaaaaaab",
		"ab",
		"a\x7f",
		"a\x80",
		"a\xff",
		"a\xff\xff",
		"b",
		"z",
		"\x7f",
		"\x7f\xff",
		"\x80",
		"\x80\x00",
		"\xc3\xa4",
		"\xfe",
		"\xff",
		"\xff\x00",
		"\xff\xff",
		strings.Repeat("\xff", 16),
		strings.Repeat("\xff", 300),
	}
}

// ofKeys: an update of each, of one Kind after the other, which are told apart.
func ofKeys(keys ...string) []rec.Update {
	var l []rec.Update
	for k, key := range keys {
		switch k % 3 {
		case 0:
			l = append(l, put(key, fmt.Sprint("v", k)))
		case 1:
			l = append(l, deletes(key))
		case 2:
			l = append(l, add(key, uint64(1000+k)))
		}
	}
	return l
}

// manyKeys: so many, rising.
func manyKeys(count int) []string {
	var keys []string
	for k := range count {
		keys = append(keys, fmt.Sprintf("k%05d", k))
	}
	return keys
}

func keysOf(l []rec.Update) []string {
	var keys []string
	for _, u := range l {
		keys = append(keys, u.Key)
	}
	return keys
}

func bufferOf(t *testing.T, l ...rec.Update) Buffer {
	t.Helper()
	b, e := Of(l...)
	if e != api.OK {
		t.Fatalf("Of(%v): %v", l, e)
	}
	return b
}

// about: keys, their neighbours, and the ends of all texts.
func about(keys []string) []string {
	l := []string{"", "\x00", "m", strings.Repeat("\xff", 400)}
	for _, key := range keys {
		l = append(l, key, key+"\x00", key+"\xff")
		if key == "" {
			continue
		}
		ahead, last := key[:len(key)-1], key[len(key)-1]
		l = append(l, ahead, ahead+string([]byte{last - 1}), ahead+string([]byte{last + 1}), ahead+string([]byte{last - 1, 255}))
	}
	return l
}

// has: it is the buffer of just these.
func has(t *testing.T, b Buffer, want ...rec.Update) {
	t.Helper()
	if b.Len() != len(want) || !slices.Equal(b.List(), want) {
		t.Errorf("%d: %v, not %d: %v", b.Len(), b.List(), len(want), want)
		return
	}
	if len(want) > 100 {
		hasEach(t, b, want)
		return
	}
	for _, key := range about(keysOf(want)) {
		k := slices.IndexFunc(want, func(u rec.Update) bool { return u.Key == key })
		if k < 0 {
			hasNot(t, b, key)
		} else {
			hasEach(t, b, want[k:k+1])
		}
	}
}

func hasEach(t *testing.T, b Buffer, l []rec.Update) {
	t.Helper()
	for _, u := range l {
		if got, ok := b.Get(u.Key); got != u || !ok {
			t.Errorf("of %v: Get(%q) = %v, %v, not %v", b.List(), u.Key, got, ok, u)
		}
	}
}

func hasNot(t *testing.T, b Buffer, key string) {
	t.Helper()
	if u, ok := b.Get(key); u != (rec.Update{}) || ok {
		t.Errorf("of %v: Get(%q) = %v, %v", b.List(), key, u, ok)
	}
}

// isZero: it is as the zero Buffer is, and as good.
func isZero(t *testing.T, b Buffer) {
	t.Helper()
	has(t, b)
	if s, e := b.Text(); s != "" || e != api.OK {
		t.Errorf("Text() = %q, %v", s, e)
	}
	has(t, b.With(add("k", 5)), add("k", 5))
	within, left := b.Cut("", "")
	has(t, within)
	has(t, left)
	has(t, b)
}

func refusesOf(t *testing.T, l ...rec.Update) {
	t.Helper()
	b, e := Of(l...)
	if e != api.ErrArg {
		t.Errorf("Of(%v): %v", l, e)
	}
	isZero(t, b)
}

// P15.1: Of, Len, List, Get.

func TestTheZeroBuffer(t *testing.T) {
	isZero(t, Buffer{})
}

func TestOfNone(t *testing.T) {
	isZero(t, bufferOf(t))
	isZero(t, bufferOf(t, []rec.Update(nil)...))
	isZero(t, bufferOf(t, []rec.Update{}...))
	isZero(t, bufferOf(t, ofKeys("a", "b")[:0]...))
}

func TestOfOne(t *testing.T) {
	for _, key := range risingKeys() {
		for _, u := range []rec.Update{put(key, "v"), put(key, ""), deletes(key), add(key, 0), add(key, math.MaxUint64)} {
			has(t, bufferOf(t, u), u)
		}
	}
}

func TestOfMany(t *testing.T) {
	for _, count := range []int{2, 3, 10, 63, 64, 65, 1000, 20000} {
		l := ofKeys(manyKeys(count)...)
		b := bufferOf(t, l...)
		has(t, b, l...)
		for _, key := range []string{"", "k", "k00000\x00", "k0000", "k99999", "z"} {
			hasNot(t, b, key)
		}
	}
	has(t, bufferOf(t, ofKeys(risingKeys()...)...), ofKeys(risingKeys()...)...)
}

// TestOfEachPair: alone, and at the front, in the middle and at the end of others.
func TestOfEachPair(t *testing.T) {
	keys := risingKeys()
	for i, a := range keys {
		for k, b := range keys {
			l := ofKeys(a, b)
			if i < k {
				has(t, bufferOf(t, l...), l...)
			} else {
				refusesOf(t, l...)
			}
		}
	}
}

// TestOfRefusesNeighbours: that are alike, or fall, at each place of a list.
func TestOfRefusesNeighbours(t *testing.T) {
	for length := 2; length <= 9; length++ {
		for at := 1; at < length; at++ {
			alike := ofKeys(manyKeys(length)...)
			alike[at].Key = alike[at-1].Key
			refusesOf(t, alike...)
			alike[at] = alike[at-1]
			refusesOf(t, alike...)
			falls := ofKeys(manyKeys(length)...)
			falls[at], falls[at-1] = falls[at-1], falls[at]
			refusesOf(t, falls...)
		}
	}
	long := ofKeys(manyKeys(5000)...)
	for _, at := range []int{1, 2500, 4999} {
		falls := slices.Clone(long)
		falls[at].Key = "k"
		refusesOf(t, falls...)
	}
	falling := ofKeys(manyKeys(5000)...)
	slices.Reverse(falling)
	refusesOf(t, falling...)
}

// TestOfEachList: of up to five of three keys.
func TestOfEachList(t *testing.T) {
	for length := range 6 {
		eachKeys([]string{"a", "a\x00", "b"}, length, func(keys []string) {
			l := ofKeys(keys...)
			if sorted := slices.Compact(slices.Sorted(slices.Values(keys))); slices.Equal(sorted, keys) {
				has(t, bufferOf(t, l...), l...)
			} else {
				refusesOf(t, l...)
			}
		})
	}
}

func eachKeys(of []string, length int, call func(keys []string)) {
	if length == 0 {
		call(nil)
		return
	}
	eachKeys(of, length-1, func(keys []string) {
		for _, key := range of {
			call(append(keys[:len(keys):len(keys)], key))
		}
	})
}

// mayNotBe: updates that layer 12 refuses, by rising keys.
func mayNotBe() []rec.Update {
	return []rec.Update{
		put("", "v"),
		{Kind: 0, Key: "a", Value: "v", Delta: 5},
		put("b", strings.Repeat("v", 33)),
		{Kind: rec.Put, Key: "c", Value: "v", Delta: 1},
		{Kind: rec.Delete, Key: "d", Value: "v"},
		{Kind: rec.Delete, Key: "e", Delta: 1},
		{Kind: rec.Add, Key: "f", Value: "v", Delta: 1},
		{Kind: 4, Key: "g"},
		deletes(strings.Repeat("h", 17)),
		{Kind: 255, Key: strings.Repeat("i", 300), Value: strings.Repeat("v", 300), Delta: math.MaxUint64},
	}
}

// TestOfWhatMayNotBe: it is of the keys alone that Of speaks.
func TestOfWhatMayNotBe(t *testing.T) {
	has(t, bufferOf(t, mayNotBe()...), mayNotBe()...)
	for _, u := range mayNotBe() {
		has(t, bufferOf(t, u), u)
		refusesOf(t, u, u)
		refusesOf(t, put("z", ""), u)
	}
}

// TestWhatLiesBehindAListIsNotRead: nor written.
func TestWhatLiesBehindAListIsNotRead(t *testing.T) {
	for _, behind := range []string{"a", "c", "d"} {
		l := ofKeys("a", "b", "c", behind)
		b := bufferOf(t, l[:3]...)
		has(t, b, ofKeys("a", "b", "c")...)
		b.With(put("bb", "v"))
		b.With(put("x", "v"))
		if !slices.Equal(l, ofKeys("a", "b", "c", behind)) {
			t.Errorf("%v", l)
		}
	}
}

func overwrite(l []rec.Update) {
	l = l[:cap(l)]
	for k := range l {
		l[k] = put("overwritten", "w")
	}
}

// TestListsAreNotShared: neither the one that is handed in, nor those that are told.
func TestListsAreNotShared(t *testing.T) {
	for length := range 9 {
		want := ofKeys(manyKeys(length)...)
		l := append(make([]rec.Update, 0, 20), want...)
		b := bufferOf(t, l...)
		twin := bufferOf(t, l...)
		overwrite(l)
		has(t, b, want...)
		first, second := b.List(), b.List()
		overwrite(first)
		if !slices.Equal(second, want) {
			t.Errorf("%v, not %v", second, want)
		}
		has(t, b, want...)
		overwrite(second)
		has(t, b, want...)
		has(t, twin, want...)
		has(t, b.With(put("a", "")), append([]rec.Update{put("a", "")}, want...)...)
	}
}

// TestListsOfOtherBuffersAreNotShared: of those that came of one another.
func TestListsOfOtherBuffersAreNotShared(t *testing.T) {
	for length := range 9 {
		want := ofKeys(manyKeys(length)...)
		b := bufferOf(t, want...)
		more := b.With(put("z", "v"))
		all, none := b.Cut("", "")
		_, left := b.Cut("z", "")
		parsed, e := Parse(textOf(want))
		if e != api.OK {
			t.Fatal(e)
		}
		for _, x := range []Buffer{b, more, all, none, left, parsed} {
			overwrite(x.List())
		}
		for _, x := range []Buffer{b, all, left, parsed} {
			has(t, x, want...)
		}
		has(t, more, append(slices.Clone(want), put("z", "v"))...)
		has(t, none)
	}
}

func TestAnswersAreTheSameEachTime(t *testing.T) {
	l := ofKeys(risingKeys()...)
	b := bufferOf(t, l...)
	for range 3 {
		has(t, b, l...)
		has(t, bufferOf(t, l...), l...)
	}
}

// byKey: a list's order, of no two of one key.
func byKey(a, b rec.Update) int { return cmp.Compare(a.Key, b.Key) }
