package leaf

import (
	"fmt"
	"math"
	"slices"
	"strings"
	"testing"

	"treenail/api"
	"treenail/msg"
	"treenail/rec"
)

const (
	five  = "\x05\x00\x00\x00\x00\x00\x00\x00"
	seven = "\x07\x00\x00\x00\x00\x00\x00\x00"
)

// someUpdates: of each Kind, of a key.
func someUpdates(key string) []rec.Update {
	return []rec.Update{
		put(key, ""),
		put(key, "new"),
		put(key, five),
		put(key, strings.Repeat("v", 32)),
		deletes(key),
		add(key, 0),
		add(key, 2),
		add(key, math.MaxUint64),
	}
}

// made: a list without a key, at whose place there is what layer 14 makes.
func made(others []Entry, at int, key, value string, there bool) []Entry {
	if !there {
		return others
	}
	return slices.Insert(slices.Clone(others), at, Entry{key, value})
}

// mayNotBe: updates of a key that layer 12's Check refuses, each way.
func mayNotBe(key string) []rec.Update {
	return []rec.Update{
		put("", "v"),
		deletes(""),
		add("", 1),
		put(strings.Repeat("k", 17), "v"),
		deletes(strings.Repeat("k", 17)),
		add(strings.Repeat("k", 300), 1),
		put(key+strings.Repeat("k", 17-len(key)), "v"),
		put(key, strings.Repeat("v", 33)),
		put(key, strings.Repeat("v", 300)),
		{Kind: 0, Key: key},
		{Kind: 0, Key: key, Value: "v"},
		{Kind: 4, Key: key},
		{Kind: 255, Key: key, Value: "v", Delta: 5},
		{Kind: rec.Put, Key: key, Value: "v", Delta: 1},
		{Kind: rec.Delete, Key: key, Value: "v"},
		{Kind: rec.Delete, Key: key, Delta: 1},
		{Kind: rec.Add, Key: key, Value: "v", Delta: 1},
		{Kind: rec.Add, Key: key, Value: strings.Repeat("v", 33), Delta: 1},
		{},
	}
}

// P16.1: On.

func TestOnOfNoUpdate(t *testing.T) {
	isZero(t, Leaf{}.On())
	isZero(t, Leaf{}.On([]rec.Update{}...))
	isZero(t, Leaf{}.On([]rec.Update{put("a", "v")}[:0]...))
	for _, count := range []int{1, 2, 5, 70} {
		f := leafOf(t, many(count)...)
		has(t, f.On(), many(count)...)
		has(t, f.On([]rec.Update(nil)...), many(count)...)
		has(t, f, many(count)...)
	}
}

// TestOnOfEachKind: written out, what each makes of each sort of value, at the front, in the middle and at the end.
func TestOnOfEachKind(t *testing.T) {
	for _, x := range []struct {
		old   string
		u     rec.Update
		value string
		there bool
	}{
		{"v", put("m", "w"), "w", true},
		{five, put("m", "w"), "w", true},
		{"v", put("m", ""), "", true},
		{"", put("m", five), five, true},
		{"v", deletes("m"), "", false},
		{"", deletes("m"), "", false},
		{five, deletes("m"), "", false},
		{"v", add("m", 2), "v", true},
		{"", add("m", 2), "", true},
		{"1234567", add("m", 2), "1234567", true},
		{"123456789", add("m", 2), "123456789", true},
		{five, add("m", 2), seven, true},
		{five, add("m", 0), five, true},
		{seven, add("m", math.MaxUint64-1), five, true},
	} {
		f := leafOf(t, Entry{"m", x.old})
		has(t, f.On(x.u), made(nil, 0, "m", x.value, x.there)...)
		has(t, f, Entry{"m", x.old})
		for at, others := range map[int][]Entry{0: ofKeys("x", "y"), 1: ofKeys("a", "x"), 2: ofKeys("a", "b")} {
			f := leafOf(t, made(others, at, "m", x.old, true)...)
			has(t, f.On(x.u), made(others, at, "m", x.value, x.there)...)
			has(t, f, made(others, at, "m", x.old, true)...)
		}
	}
}

// TestOnOfEachKindOfNothing: written out.
func TestOnOfEachKindOfNothing(t *testing.T) {
	for at, others := range map[int][]Entry{0: ofKeys("x", "y"), 1: ofKeys("a", "x"), 2: ofKeys("a", "b")} {
		f := leafOf(t, others...)
		has(t, f.On(put("m", "w")), made(others, at, "m", "w", true)...)
		has(t, f.On(put("m", "")), made(others, at, "m", "", true)...)
		has(t, f.On(deletes("m")), others...)
		has(t, f.On(add("m", 5)), made(others, at, "m", five, true)...)
		has(t, f.On(add("m", 0)), made(others, at, "m", strings.Repeat("\x00", 8), true)...)
		has(t, f, others...)
	}
	has(t, Leaf{}.On(put("m", "w")), Entry{"m", "w"})
	has(t, Leaf{}.On(deletes("m")))
	has(t, Leaf{}.On(add("m", 5)), Entry{"m", five})
}

// TestOnOfEachPlace: at a key that is there, and at one that isn't; all others stay.
func TestOnOfEachPlace(t *testing.T) {
	for _, all := range [][]Entry{ofKeys(risingKeys()...), ofKeys("a"), ofKeys("a", "b"), many(200)} {
		whole := leafOf(t, all...)
		for at, x := range all {
			others := slices.Delete(slices.Clone(all), at, at+1)
			without := leafOf(t, others...)
			for _, u := range someUpdates(x.Key) {
				value, there := msg.On(x.Value, true, u)
				has(t, whole.On(u), made(others, at, x.Key, value, there)...)
				value, there = msg.On("", false, u)
				has(t, without.On(u), made(others, at, x.Key, value, there)...)
			}
			has(t, without, others...)
		}
		has(t, whole, all...)
	}
}

// TestOnOfEachList: up to five updates of one key, and of two, of each leaf that has some of them; as layer 14's All of each key's.
func TestOnOfEachList(t *testing.T) {
	one := []rec.Update{put("k", "x"), put("k", msg.Value(3)), deletes("k"), add("k", 1), add("k", math.MaxUint64)}
	two := []rec.Update{put("k", msg.Value(3)), deletes("k"), add("k", 1), put("j", "x"), deletes("j"), add("j", 2)}
	leaves := []Leaf{{}, leafOf(t, Entry{"k", "v"}), leafOf(t, Entry{"k", five}), leafOf(t, Entry{"j", ""}, Entry{"k", five}), leafOf(t, ofKeys("a", "j", "z")...)}
	for _, some := range [][]rec.Update{one, two} {
		for length := range 6 {
			eachList(some, length, func(l []rec.Update) {
				for _, f := range leaves {
					doesAsAll(t, f, l)
				}
			})
		}
	}
}

// doesAsAll: On of a list, and of each of its updates behind the other, is what layer 14's All of each key's updates makes.
func doesAsAll(t *testing.T, f Leaf, l []rec.Update) {
	t.Helper()
	want := madeByKey(f.List(), l)
	if got := f.On(l...).List(); !slices.Equal(got, want) {
		t.Errorf("%v on %q: %q, not %q", l, f.List(), got, want)
	}
	for _, u := range l {
		f = f.On(u)
	}
	if !slices.Equal(f.List(), want) {
		t.Errorf("%v, one by one: %q, not %q", l, f.List(), want)
	}
}

// madeByKey: of each key, what all of its updates make, in order.
func madeByKey(entries []Entry, l []rec.Update) []Entry {
	values, ofKey := map[string][]string{}, map[string][]rec.Update{}
	for _, x := range entries {
		values[x.Key], ofKey[x.Key] = []string{x.Value}, nil
	}
	for _, u := range l {
		if u.Check() == api.OK {
			ofKey[u.Key] = append(ofKey[u.Key], u)
		}
	}
	var all []Entry
	for key, l := range ofKey {
		old := append(values[key], "")[0]
		if value, there := msg.All(old, len(values[key]) > 0, l...); there {
			all = append(all, Entry{key, value})
		}
	}
	slices.SortFunc(all, byKey)
	return all
}

// TestOnOfFewKeysInEachOrder: some updates of three keys, in every order.
func TestOnOfFewKeysInEachOrder(t *testing.T) {
	l := []rec.Update{put("b", msg.Value(1)), add("b", 2), deletes("b"), add("a", 3), put("a", "x"), add("c", 4), deletes("c")}
	for _, f := range []Leaf{{}, leafOf(t, ofKeys("a", "b", "c")...), leafOf(t, Entry{"0", ""}, Entry{"b", five}, Entry{"z", ""})} {
		eachOrder(l, func(l []rec.Update) {
			if got, want := f.On(l...).List(), madeByKey(f.List(), l); !slices.Equal(got, want) {
				t.Errorf("%v on %q: %q, not %q", l, f.List(), got, want)
			}
		})
	}
}

// eachOrder calls a function with each order of a list.
func eachOrder(l []rec.Update, call func(l []rec.Update)) {
	if len(l) == 0 {
		call(nil)
		return
	}
	for k := range l {
		others := slices.Delete(slices.Clone(l), k, k+1)
		eachOrder(others, func(behind []rec.Update) { call(append([]rec.Update{l[k]}, behind...)) })
	}
}

// TestOnOfEachOrderOfKeys: six keys, each once.
func TestOnOfEachOrderOfKeys(t *testing.T) {
	want := ofKeys("a", "a\x00", "aa", "b", "\x80", "\xff")
	var puts, gone []rec.Update
	for _, x := range want {
		puts, gone = append(puts, put(x.Key, x.Value)), append(gone, deletes(x.Key))
	}
	whole := leafOf(t, want...)
	eachOrder(puts, func(l []rec.Update) {
		if f := (Leaf{}).On(l...); !slices.Equal(f.List(), want) {
			t.Errorf("%v: %q", l, f.List())
		}
	})
	eachOrder(gone, func(l []rec.Update) {
		if f := whole.On(l...); f.Len() != 0 || len(f.List()) != 0 {
			t.Errorf("%v: %q", l, f.List())
		}
	})
	has(t, whole, want...)
}

// TestOnMakesAndTakesAway: a value that comes and goes leaves the leaf as it was.
func TestOnMakesAndTakesAway(t *testing.T) {
	all := ofKeys(risingKeys()...)
	for at, x := range all {
		others := slices.Delete(slices.Clone(all), at, at+1)
		f := leafOf(t, others...)
		has(t, f.On(put(x.Key, "v"), deletes(x.Key)), others...)
		has(t, f.On(add(x.Key, 5), deletes(x.Key)), others...)
		has(t, f.On(put(x.Key, "v"), deletes(x.Key), deletes(x.Key)), others...)
		has(t, f.On(deletes(x.Key), put(x.Key, x.Value)), all...)
		has(t, f.On(put(x.Key, "v"), deletes(x.Key), put(x.Key, x.Value)), all...)
		has(t, leafOf(t, all...).On(deletes(x.Key), put(x.Key, x.Value)), all...)
		has(t, leafOf(t, all...).On(deletes(x.Key), add(x.Key, 5)), made(others, at, x.Key, five, true)...)
	}
	has(t, Leaf{}.On(put("k", "v"), deletes("k")))
	isZero(t, Leaf{}.On(add("k", 1), deletes("k")))
	isZero(t, leafOf(t, many(5)...).On(deletes("k00000"), deletes("k00004"), deletes("k00002"), deletes("k00001"), deletes("k00003")))
}

// TestOnOfWhatMayNotBe: alone, ahead of, between and behind others it changes nothing.
func TestOnOfWhatMayNotBe(t *testing.T) {
	leaves := []Leaf{{}, leafOf(t, Entry{"k", "v"}), leafOf(t, Entry{"k", five}), leafOf(t, ofKeys("a", "k", "z")...), leafOf(t, ofKeys("a", "z")...)}
	first, then := add("k", 5), add("k", 2)
	for _, u := range mayNotBe("k") {
		if u.Check() == api.OK {
			t.Errorf("%v may be", u)
		}
		for _, f := range leaves {
			has(t, f.On(u), f.List()...)
			has(t, f.On(u, u), f.List()...)
			has(t, f.On(u, first, then), f.On(first, then).List()...)
			has(t, f.On(first, u, then), f.On(first, then).List()...)
			has(t, f.On(first, then, u), f.On(first, then).List()...)
			has(t, f.On(u, first, u, then, u), f.On(first, then).List()...)
			has(t, f.On(deletes("k"), u), f.On(deletes("k")).List()...)
		}
	}
	all := mayNotBe("k")
	isZero(t, Leaf{}.On(all...))
	has(t, leafOf(t, many(5)...).On(slices.Insert(all, 5, put("z", "v"))...), append(many(5), Entry{"z", "v"})...)
}

// TestOnOfTheGreatest: keys and values of the greatest length may be.
func TestOnOfTheGreatest(t *testing.T) {
	key, value := strings.Repeat("k", 16), strings.Repeat("v", 32)
	has(t, Leaf{}.On(put(key, value)), Entry{key, value})
	has(t, Leaf{}.On(put(key, value), put(key+"k", value), put(key, value+"v")), Entry{key, value})
	has(t, Leaf{}.On(add(key, 5)), Entry{key, five})
	has(t, Leaf{}.On(put(key, value), deletes(key)))
}

// TestOnOfMany: of rising keys, of falling ones, and of keys that jump about; each taken away again.
func TestOnOfMany(t *testing.T) {
	want := many(2000)
	rising, gone := []rec.Update(nil), []rec.Update(nil)
	for _, x := range want {
		rising = append(rising, put(x.Key, x.Value))
	}
	falling, jumping := slices.Clone(rising), []rec.Update(nil)
	slices.Reverse(falling)
	for k := range rising {
		jumping = append(jumping, rising[k*1237%2000])
		gone = append(gone, deletes(want[k*777%2000].Key))
	}
	for _, l := range [][]rec.Update{rising, falling, jumping} {
		has(t, Leaf{}.On(l...), want...)
		has(t, Leaf{}.On(l...).On(gone...))
		has(t, Leaf{}.On(slices.Concat(l, gone)...))
		has(t, Leaf{}.On(slices.Concat(l, gone, l)...), want...)
	}
	var adds []rec.Update
	for k := range 10000 {
		adds = append(adds, add(fmt.Sprint("k", k*7%10), 1))
	}
	f := Leaf{}.On(adds...)
	for k := range 10 {
		hasEach(t, f, []Entry{{fmt.Sprint("k", k), msg.Value(1000)}})
	}
	if f.Len() != 10 {
		t.Errorf("%d", f.Len())
	}
}

// TestUpdatesThatAreHandedInAreNotKept: nor written, nor what lies behind them read.
func TestUpdatesThatAreHandedInAreNotKept(t *testing.T) {
	l := []rec.Update{put("a", "v"), add("b", 5), deletes("c"), {Kind: 9}, put("d", "w"), deletes("a"), put("e", "x")}
	kept := slices.Clone(l)
	f := leafOf(t, ofKeys("a", "c")...)
	g := f.On(l[:5]...)
	want := []Entry{{"a", "v"}, {"b", five}, {"d", "w"}}
	has(t, g, want...)
	if !slices.Equal(l, kept) {
		t.Errorf("%v", l)
	}
	for k := range l {
		l[k] = put("overwritten", "w")
	}
	has(t, g, want...)
	has(t, f, ofKeys("a", "c")...)
}

// TestOlderLeavesStay: each one that was ahead of an On has what it had, with others behind it.
func TestOlderLeavesStay(t *testing.T) {
	w := walk{161}
	for range 50 {
		leaves, lists := []Leaf{{}}, [][]Entry{nil}
		for range 40 {
			f := leaves[w.below(len(leaves))].On(w.updates(w.below(4))...)
			leaves, lists = append(leaves, f), append(lists, f.List())
		}
		for k, f := range leaves {
			has(t, f, lists[k]...)
		}
	}
}

// TestTwoOnsOfOneLeaf: each has its own, and the one that they came of has neither, however it came to be.
func TestTwoOnsOfOneLeaf(t *testing.T) {
	grown := Leaf{}
	var want []Entry
	for _, x := range many(40) {
		grown, want = grown.On(put(x.Key, x.Value)), append(want, x)
		parsed, e := Parse(textOf(want))
		if e != api.OK {
			t.Fatal(e)
		}
		shrunk := leafOf(t, slices.Concat([]Entry{{"a", ""}}, want, []Entry{{"z", ""}})...).On(deletes("a"), deletes("z"))
		part := leafOf(t, many(2*len(want))...).Parts(len(want))[0] // with others behind it
		for _, f := range []Leaf{grown, leafOf(t, want...), parsed, shrunk, grown.On(), part} {
			twoOns(t, f, want)
		}
	}
}

func twoOns(t *testing.T, f Leaf, want []Entry) {
	t.Helper()
	key := want[len(want)/2].Key
	first, second := f.On(put("z", "first")), f.On(put("z", "second"))
	front, gone := f.On(put("a", "front")), f.On(deletes(key))
	again, twice := f.On(put(key, "again")), f.On(put(key, "twice"))
	has(t, first, append(slices.Clone(want), Entry{"z", "first"})...)
	has(t, second, append(slices.Clone(want), Entry{"z", "second"})...)
	has(t, front, append([]Entry{{"a", "front"}}, want...)...)
	has(t, gone, slices.DeleteFunc(slices.Clone(want), func(x Entry) bool { return x.Key == key })...)
	hasEach(t, again, []Entry{{key, "again"}})
	hasEach(t, twice, []Entry{{key, "twice"}})
	has(t, f, want...)
}
