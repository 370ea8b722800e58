package buf

import (
	"fmt"
	"math"
	"slices"
	"strings"
	"testing"

	"treenail/msg"
	"treenail/rec"
)

func withAll(b Buffer, l ...rec.Update) Buffer {
	for _, u := range l {
		b = b.With(u)
	}
	return b
}

// P15.1: With.

func TestWithOfTheExample(t *testing.T) {
	b := withAll(Buffer{}, put("k", msg.Value(3)), add("k", 4))
	has(t, b, put("k", "\x07\x00\x00\x00\x00\x00\x00\x00"))
	has(t, withAll(Buffer{}, add("k", 3), add("k", 4)), add("k", 7))
}

// TestWithOfAKeyThatIsNotThere: at each place, the front and the end among them.
func TestWithOfAKeyThatIsNotThere(t *testing.T) {
	for _, all := range [][]rec.Update{ofKeys(risingKeys()...), mayNotBe(), ofKeys("a"), ofKeys("a", "b"), ofKeys(manyKeys(200)...)} {
		for at := range all {
			others := slices.Delete(slices.Clone(all), at, at+1)
			b := bufferOf(t, others...)
			has(t, b.With(all[at]), all...)
			has(t, b, others...)
		}
	}
}

// TestWithOfAKeyThatIsThere: at each place; all others stay.
func TestWithOfAKeyThatIsThere(t *testing.T) {
	for _, all := range [][]rec.Update{ofKeys(risingKeys()...), ofKeys("a"), ofKeys("a", "b"), ofKeys(manyKeys(200)...)} {
		b := bufferOf(t, all...)
		for at, there := range all {
			for _, u := range []rec.Update{put(there.Key, "new"), deletes(there.Key), add(there.Key, 9)} {
				want := slices.Clone(all)
				want[at] = msg.Join(there, u)
				has(t, b.With(u), want...)
				has(t, b, all...)
			}
		}
	}
}

// kindsBehindKinds: written out, what waits of each of the three Kinds behind each other.
func kindsBehindKinds() []struct{ first, then, want rec.Update } {
	const five, seven = "\x05\x00\x00\x00\x00\x00\x00\x00", "\x07\x00\x00\x00\x00\x00\x00\x00"
	return []struct{ first, then, want rec.Update }{
		{put("m", "v"), put("m", "w"), put("m", "w")},
		{put("m", five), put("m", "w"), put("m", "w")},
		{put("m", "w"), put("m", ""), put("m", "")},
		{put("m", "v"), deletes("m"), deletes("m")},
		{put("m", five), deletes("m"), deletes("m")},
		{put("m", "v"), add("m", 2), put("m", "v")},
		{put("m", ""), add("m", 2), put("m", "")},
		{put("m", five), add("m", 2), put("m", seven)},
		{put("m", strings.Repeat("\xff", 8)), add("m", 6), put("m", five)},
		{deletes("m"), put("m", "w"), put("m", "w")},
		{deletes("m"), deletes("m"), deletes("m")},
		{deletes("m"), add("m", 5), put("m", five)},
		{add("m", 3), put("m", "w"), put("m", "w")},
		{add("m", 3), deletes("m"), deletes("m")},
		{add("m", 3), add("m", 4), add("m", 7)},
		{add("m", math.MaxUint64), add("m", 3), add("m", 2)},
	}
}

func TestWithOfEachKindBehindEachOther(t *testing.T) {
	for _, x := range kindsBehindKinds() {
		if got := msg.Join(x.first, x.then); got != x.want {
			t.Errorf("%v", got)
		}
		has(t, withAll(Buffer{}, x.first, x.then), x.want)
		front, end := ofKeys("a", "b"), ofKeys("x", "y")
		has(t, bufferOf(t, append([]rec.Update{x.first}, end...)...).With(x.then), append([]rec.Update{x.want}, end...)...)
		has(t, bufferOf(t, append(front, x.first)...).With(x.then), append(front, x.want)...)
		middle := slices.Concat(front, []rec.Update{x.first}, end)
		has(t, bufferOf(t, middle...).With(x.then), slices.Concat(front, []rec.Update{x.want}, end)...)
	}
}

// TestWithOfWhatMayNotBe: it waits as any other does.
func TestWithOfWhatMayNotBe(t *testing.T) {
	l := mayNotBe()
	has(t, withAll(Buffer{}, l...), l...)
	slices.Reverse(l)
	has(t, withAll(Buffer{}, l...), mayNotBe()...)
	over := rec.Update{Kind: rec.Put, Key: "k", Value: "v", Delta: 5}
	has(t, withAll(Buffer{}, add("k", 1), over), over)
	has(t, withAll(Buffer{}, over, rec.Update{Kind: rec.Add, Key: "k", Value: "w", Delta: 1}), over)
	has(t, withAll(Buffer{}, rec.Update{Kind: rec.Delete, Key: "k", Value: "v", Delta: 5}, add("k", 1)), put("k", msg.Value(1)))
}

// TestWithEndsOfKindsThatAreNone: nothing is promised of what Join makes of them, but one update waits.
func TestWithEndsOfKindsThatAreNone(t *testing.T) {
	for first := range 256 {
		for _, then := range []int{0, 1, 2, 3, 4, 255} {
			b := withAll(Buffer{}, rec.Update{Kind: rec.Kind(first), Key: "k"}, rec.Update{Kind: rec.Kind(then), Key: "k"})
			if u, ok := b.Get("k"); b.Len() != 1 || u.Key != "k" || !ok {
				t.Errorf("%d, %d: %v", first, then, b.List())
			}
		}
	}
}

// TestWithInEachOrder: of six keys, each once.
func TestWithInEachOrder(t *testing.T) {
	want := ofKeys("a", "a\x00", "aa", "b", "\x80", "\xff")
	eachOrder(want, func(l []rec.Update) {
		if b := withAll(Buffer{}, l...); !slices.Equal(b.List(), want) {
			t.Errorf("%v: %v", l, b.List())
		}
	})
}

// eachOrder calls a function with each order of a list.
func eachOrder(l []rec.Update, call func(l []rec.Update)) {
	if len(l) == 0 {
		call(nil)
		return
	}
	for k := range l {
		others := slices.Delete(slices.Clone(l), k, k+1)
		eachOrder(others, func(behind []rec.Update) { call(append([]rec.Update{l[k]}, behind...)) })
	}
}

// TestWithOfFewKeysInEachOrder: some updates of three keys, in every order; of each key what waits is layer 14's Join of its updates, as they come.
func TestWithOfFewKeysInEachOrder(t *testing.T) {
	l := []rec.Update{put("b", msg.Value(1)), add("b", 2), deletes("b"), add("a", 3), put("a", "x"), add("c", 4), add("c", 5)}
	eachOrder(l, func(l []rec.Update) {
		if b := withAll(Buffer{}, l...); !slices.Equal(b.List(), joinedByKey(l)) {
			t.Errorf("%v: %v, not %v", l, b.List(), joinedByKey(l))
		}
	})
}

// joinedByKey: one update of each key, by rising keys.
func joinedByKey(l []rec.Update) []rec.Update {
	waiting := map[string]rec.Update{}
	for _, u := range l {
		if first, ok := waiting[u.Key]; ok {
			u = msg.Join(first, u)
		}
		waiting[u.Key] = u
	}
	var joined []rec.Update
	for _, u := range waiting {
		joined = append(joined, u)
	}
	slices.SortFunc(joined, byKey)
	return joined
}

// TestWithOfMany: of rising keys, of falling ones, and of keys that come from both ends; more than a node may have.
func TestWithOfMany(t *testing.T) {
	want := ofKeys(manyKeys(2000)...)
	falling, fromEnds := slices.Clone(want), []rec.Update(nil)
	slices.Reverse(falling)
	for k := range 1000 {
		fromEnds = append(fromEnds, want[k], want[1999-k])
	}
	for _, l := range [][]rec.Update{want, falling, fromEnds} {
		has(t, withAll(Buffer{}, l...), want...)
	}
	b := Buffer{}
	for k := range 10000 {
		b = b.With(add(fmt.Sprint("k", k*7%10), 1))
	}
	for k := range 10 {
		hasEach(t, b, []rec.Update{add(fmt.Sprint("k", k), 1000)})
	}
	if b.Len() != 10 {
		t.Errorf("%d", b.Len())
	}
}

// TestOlderBuffersStay: each one that was ahead of a With has what it had.
func TestOlderBuffersStay(t *testing.T) {
	w := walk{151}
	for range 50 {
		buffers, lists := []Buffer{{}}, [][]rec.Update{nil}
		for range 40 {
			at := w.below(len(buffers))
			b := buffers[at].With(w.update())
			buffers, lists = append(buffers, b), append(lists, b.List())
		}
		for k, b := range buffers {
			has(t, b, lists[k]...)
		}
	}
}

// TestTwoWithsOfOneBuffer: each has its own, and the one that they came of has neither.
func TestTwoWithsOfOneBuffer(t *testing.T) {
	grown, parsed, cut, left := Buffer{}, Buffer{}, Buffer{}, Buffer{}
	var want []rec.Update
	for _, u := range ofKeys(manyKeys(40)...) {
		grown, want = grown.With(u), append(want, u)
		parsed, _ = Parse(textOf(want))
		cut, _ = withAll(grown, put("a", ""), put("z", "")).Cut("k", "l")
		_, left = withAll(grown, put("a", ""), put("z", "")).Cut("z", "")
		_, left = left.Cut("", "b")
		for _, b := range []Buffer{grown, bufferOf(t, want...), parsed, cut, left} {
			twoWiths(t, b, want)
		}
	}
}

func twoWiths(t *testing.T, b Buffer, want []rec.Update) {
	t.Helper()
	first, second := b.With(put("z", "first")), b.With(put("z", "second"))
	front, key := b.With(put("a", "front")), want[len(want)/2].Key
	again, twice := b.With(put(key, "again")), b.With(put(key, "twice"))
	has(t, first, append(slices.Clone(want), put("z", "first"))...)
	has(t, second, append(slices.Clone(want), put("z", "second"))...)
	has(t, front, append([]rec.Update{put("a", "front")}, want...)...)
	hasEach(t, again, []rec.Update{put(key, "again")})
	hasEach(t, twice, []rec.Update{put(key, "twice")})
	has(t, b, want...)
}
