package msg

import (
	"math"
	"slices"
	"testing"

	"treenail/rec"
)

// someUpdates: of each Kind, with numbers and none; sums of theirs lie on both sides of 2^64's end.
func someUpdates() []rec.Update {
	return []rec.Update{
		put(""),
		put("x"),
		put(repeated(255, 7)),
		put(bytesOf(0)),
		put(bytesOf(math.MaxUint64)),
		put(repeated(1, 9)),
		deletes(),
		add(0),
		add(1),
		add(1 << 63),
		add(math.MaxUint64),
	}
}

// fewValues: none, numbers, and what is none.
func fewValues() []state {
	return []state{
		{"", false},
		{"x", false},
		{bytesOf(7), false},
		{"", true},
		{"x", true},
		{repeated(255, 7), true},
		{bytesOf(0), true},
		{bytesOf(7), true},
		{bytesOf(math.MaxUint64), true},
		{repeated(255, 9), true},
		{repeated(255, 16), true},
	}
}

func makesAll(t *testing.T, of, want state, l ...rec.Update) {
	t.Helper()
	if s, ok := All(of.value, of.there, l...); s != want.value || ok != want.there {
		t.Errorf("All(%.20q, %v, %v) = %.20q, %v, not %.20q, %v", of.value, of.there, l, s, ok, want.value, want.there)
	}
}

// oneBehindTheOther: what On makes of each of them, in order.
func oneBehindTheOther(of state, l []rec.Update) state {
	for _, u := range l {
		of.value, of.there = On(of.value, of.there, u)
	}
	return of
}

// eachList calls a function with each list of so many of some updates.
func eachList(of []rec.Update, length int, call func(l []rec.Update)) {
	if length == 0 {
		call(nil)
		return
	}
	eachList(of, length-1, func(l []rec.Update) {
		for _, u := range of {
			call(append(l[:len(l):len(l)], u))
		}
	})
}

// P14.1: All.

func TestAllOfNone(t *testing.T) {
	for _, value := range someValues() {
		makesAll(t, state{value, true}, state{value, true})
		makesAll(t, state{value, false}, state{"", false})
		makesAll(t, state{value, true}, state{value, true}, []rec.Update{}...)
		makesAll(t, state{value, false}, state{"", false}, []rec.Update{}...)
	}
}

func TestAllOfKindsThatAreNone(t *testing.T) {
	for _, kind := range []rec.Kind{0, 4, 5, 128, 255} {
		u := rec.Update{Kind: kind, Key: "k", Value: "v", Delta: 5}
		for _, value := range someValues() {
			makesAll(t, state{value, true}, state{value, true}, u, u, u)
			makesAll(t, state{value, false}, state{"", false}, u, u, u)
			makesAll(t, state{value, true}, state{"w", true}, u, put("w"), u)
			makesAll(t, state{value, false}, state{bytesOf(5), true}, u, add(2), u, add(3), u)
			makesAll(t, state{value, true}, state{"", false}, u, deletes(), u)
		}
	}
}

// TestAllInOrder: written out; each order of the same updates makes another value.
func TestAllInOrder(t *testing.T) {
	none := state{"", false}
	for _, x := range []struct {
		of   state
		l    []rec.Update
		want state
	}{
		{none, []rec.Update{put("a"), put("b")}, state{"b", true}},
		{none, []rec.Update{put("b"), put("a")}, state{"a", true}},
		{none, []rec.Update{put("a"), deletes()}, none},
		{none, []rec.Update{deletes(), put("a")}, state{"a", true}},
		{none, []rec.Update{put(bytesOf(3)), add(4)}, state{bytesOf(7), true}},
		{none, []rec.Update{add(4), put(bytesOf(3))}, state{bytesOf(3), true}},
		{none, []rec.Update{deletes(), add(4)}, state{bytesOf(4), true}},
		{none, []rec.Update{add(4), deletes()}, none},
		{none, []rec.Update{put("a"), add(4)}, state{"a", true}},
		{none, []rec.Update{put("a"), add(4), deletes(), add(5)}, state{bytesOf(5), true}},
		{none, []rec.Update{add(4), deletes(), add(5), put("a")}, state{"a", true}},
		{none, []rec.Update{add(1), add(2), deletes(), add(7)}, state{bytesOf(7), true}},
		{none, []rec.Update{add(math.MaxUint64), add(3)}, state{bytesOf(2), true}},
		{none, []rec.Update{put(""), add(3)}, state{"", true}},
		{none, []rec.Update{put(""), deletes(), add(3)}, state{bytesOf(3), true}},
		{state{"a", true}, []rec.Update{add(1), deletes(), add(1), add(1)}, state{bytesOf(2), true}},
		{state{bytesOf(9), true}, []rec.Update{add(1), add(2), add(3)}, state{bytesOf(15), true}},
		{state{bytesOf(9), false}, []rec.Update{add(1), add(2), add(3)}, state{bytesOf(6), true}},
	} {
		makesAll(t, x.of, x.want, x.l...)
	}
}

// TestAllIsWhatOnMakes: of each list of up to four.
func TestAllIsWhatOnMakes(t *testing.T) {
	for length := 1; length <= 4; length++ {
		eachList(someUpdates(), length, func(l []rec.Update) {
			for _, of := range fewValues() {
				makesAll(t, of, oneBehindTheOther(of, l), l...)
			}
		})
	}
}

func TestAllOfMany(t *testing.T) {
	const count = 100000
	l := make([]rec.Update, count)
	for k := range l {
		l[k] = add(uint64(k))
	}
	makesAll(t, state{"", false}, state{bytesOf(count * (count - 1) / 2), true}, l...)
	l[count/2] = deletes()
	half := uint64(count / 2)
	makesAll(t, state{"", false}, state{bytesOf(count*(count-1)/2 - half*(half+1)/2), true}, l...)
	l[count-1] = put("last")
	makesAll(t, state{"", false}, state{"last", true}, l...)
}

// TestKeysMakeNoDifferenceToAll: it is the caller who says which updates are of one key.
func TestKeysMakeNoDifferenceToAll(t *testing.T) {
	other := func(key string, u rec.Update) rec.Update {
		u.Key = key
		return u
	}
	makesAll(t, state{"", false}, state{bytesOf(6), true}, other("a", add(1)), other("b", add(2)), other("", add(3)))
	makesAll(t, state{"x", true}, state{bytesOf(5), true}, other("a", deletes()), other("b", add(5)))
	makesAll(t, state{"x", true}, state{"y", true}, other("a", put("y")), other("b", add(5)))
}

// TestWhatIsHandedInStays: the list, and what lies behind its length, which isn't read, either.
func TestWhatIsHandedInStays(t *testing.T) {
	for length := range len(someUpdates()) + 1 {
		for _, of := range fewValues() {
			l := someUpdates()
			want := madeOfAll(of, someUpdates()[:length])
			makesAll(t, of, want, l[:length]...)
			makesAll(t, of, want, l[:length]...)
			if !slices.Equal(l, someUpdates()) {
				t.Errorf("%v", l)
			}
		}
	}
}
