package msg

import (
	"math"
	"testing"

	"treenail/rec"
)

// keys: of one length and of others; some that may not be.
var keys = []string{"a", "b", "", "aa", "\x00", "kkkkkkkkkkkkkkkk", "kkkkkkkkkkkkkkkkk"}

func keyed(key string, u rec.Update) rec.Update {
	u.Key = key
	return u
}

// joins: of two with one Key, and of two with each pair of others, of which it is then's.
func joins(t *testing.T, first, then, want rec.Update) {
	t.Helper()
	for _, a := range keys {
		for _, b := range keys {
			if u := Join(keyed(a, first), keyed(b, then)); u != keyed(b, want) {
				t.Errorf("Join(%v, %v) = %v, not %v", keyed(a, first), keyed(b, then), u, keyed(b, want))
			}
		}
	}
}

// joinsTo: whatever the two are of, they do what they do one behind the other.
func joinsTo(t *testing.T, first, then, want rec.Update) {
	t.Helper()
	joins(t, first, then, want)
	doesAsAll(t, Join(first, then), []rec.Update{first, then})
}

func doesAsAll(t *testing.T, u rec.Update, l []rec.Update) {
	t.Helper()
	for _, of := range fewValues() {
		want := oneBehindTheOther(of, l)
		if s, ok := On(of.value, of.there, u); s != want.value || ok != want.there {
			t.Errorf("%v, for %v: On(%.20q, %v) = %.20q, %v, not %.20q, %v", u, l, of.value, of.there, s, ok, want.value, want.there)
		}
	}
}

// P14.2.

// TestJoinOfEachPair: written out, of the three Kinds behind each of them.
func TestJoinOfEachPair(t *testing.T) {
	number := put("\x03\x00\x00\x00\x00\x00\x00\x00")
	for _, x := range []struct{ first, then, want rec.Update }{
		{put("a"), put("b"), put("b")},
		{put("a"), put(""), put("")},
		{number, put("b"), put("b")},
		{deletes(), put("b"), put("b")},
		{add(2), put("b"), put("b")},
		{add(2), number, number},
		{put("a"), deletes(), deletes()},
		{number, deletes(), deletes()},
		{deletes(), deletes(), deletes()},
		{add(2), deletes(), deletes()},
		{number, add(2), put("\x05\x00\x00\x00\x00\x00\x00\x00")},
		{put("a"), add(2), put("a")},
		{put(""), add(2), put("")},
		{deletes(), add(2), put("\x02\x00\x00\x00\x00\x00\x00\x00")},
		{add(3), add(2), add(5)},
	} {
		joinsTo(t, x.first, x.then, x.want)
	}
}

// TestJoinOfPutsAndDeletesIsThen: whatever is ahead of it.
func TestJoinOfPutsAndDeletesIsThen(t *testing.T) {
	for _, first := range someUpdates() {
		for _, value := range someValues() {
			joins(t, first, put(value), put(value))
		}
		joins(t, first, deletes(), deletes())
	}
	for _, value := range someValues() {
		joins(t, put(value), put("w"), put("w"))
		joins(t, put(value), deletes(), deletes())
	}
}

// TestJoinOfAnAddBehindPutsOfNumbers: some sums lie at 2^64's end and past it.
func TestJoinOfAnAddBehindPutsOfNumbers(t *testing.T) {
	for _, n := range numbers() {
		for _, delta := range numbers() {
			joins(t, put(bytesOf(n)), add(delta), put(bytesOf(sumOf(n, delta))))
		}
	}
	joinsTo(t, put(bytesOf(math.MaxUint64)), add(1), put(bytesOf(0)))
	joinsTo(t, put(bytesOf(math.MaxUint64-1)), add(1), put(bytesOf(math.MaxUint64)))
	joinsTo(t, put(bytesOf(1<<63)), add(1<<63), put(bytesOf(0)))
	joinsTo(t, put(bytesOf(7)), add(math.MaxUint64), put(bytesOf(6)))
	joinsTo(t, put("abcdefgh"), add(1), put("bbcdefgh"))
	joinsTo(t, put("abcdefgh"), add(0), put("abcdefgh"))
}

// TestJoinOfAnAddBehindPutsOfNoNumbers: it is the Put, but for the Key.
func TestJoinOfAnAddBehindPutsOfNoNumbers(t *testing.T) {
	for _, value := range noNumbers() {
		for _, delta := range []uint64{0, 1, 1 << 63, math.MaxUint64} {
			joinsTo(t, put(value), add(delta), put(value))
		}
	}
}

func TestJoinOfAnAddBehindPutsOfEachLength(t *testing.T) {
	for length := range 18 {
		value := repeated('a', length)
		want := value
		if length == 8 {
			want = "baaaaaaa"
		}
		joinsTo(t, put(value), add(1), put(want))
	}
}

func TestJoinOfAnAddBehindADelete(t *testing.T) {
	for _, delta := range numbers() {
		joinsTo(t, deletes(), add(delta), put(bytesOf(delta)))
	}
}

func TestJoinOfAnAddBehindAnAdd(t *testing.T) {
	for _, n := range numbers() {
		for _, delta := range numbers() {
			joins(t, add(n), add(delta), add(sumOf(n, delta)))
		}
	}
	joinsTo(t, add(math.MaxUint64), add(1), add(0))
	joinsTo(t, add(math.MaxUint64), add(math.MaxUint64), add(math.MaxUint64-1))
	joinsTo(t, add(0), add(0), add(0))
}

// TestJoinOfWhatMayNotBe: updates of the three Kinds with what their Kind doesn't have; of what is made anew nothing of that is told.
func TestJoinOfWhatMayNotBe(t *testing.T) {
	over := func(u rec.Update) rec.Update {
		if u.Kind != rec.Put {
			u.Value = bytesOf(77)
		}
		if u.Kind != rec.Add {
			u.Delta = 88
		}
		return u
	}
	for _, first := range someUpdates() {
		joins(t, over(first), over(put("w")), over(put("w")))
		joins(t, over(first), over(deletes()), over(deletes()))
	}
	joins(t, over(put(bytesOf(3))), over(add(2)), put(bytesOf(5)))
	joins(t, over(put("x")), over(add(2)), over(put("x")))
	joins(t, over(deletes()), over(add(2)), put(bytesOf(2)))
	joins(t, over(add(3)), over(add(2)), add(5))
}

// TestJoinOfWhatMayBeMayBe: by layer 12's Check.
func TestJoinOfWhatMayBeMayBe(t *testing.T) {
	l := someUpdates()
	for _, n := range numbers() {
		l = append(l, put(bytesOf(n)), add(n))
	}
	l = append(l, put(repeated('v', 32)))
	for _, first := range l {
		for _, then := range l {
			if e := Join(first, then).Check(); e != 0 {
				t.Errorf("Join(%v, %v): %v", first, then, e)
			}
		}
	}
}

// TestJoinEndsOfKindsThatAreNone: nothing is promised of what is told, but P1 that it ends.
func TestJoinEndsOfKindsThatAreNone(t *testing.T) {
	for first := range 256 {
		for then := range 256 {
			a := rec.Update{Kind: rec.Kind(first), Key: "a", Value: "v", Delta: 1}
			if u := Join(a, rec.Update{Kind: rec.Kind(then), Key: "b", Value: "w", Delta: 2}); u.Key != "b" {
				t.Errorf("%d, %d: %v", first, then, u)
			}
		}
	}
}

// P14.3.

// TestJoinOfEachPairDoesAsBoth: of more updates, and of every value.
func TestJoinOfEachPairDoesAsBoth(t *testing.T) {
	l := someUpdates()
	for _, value := range someValues() {
		l = append(l, put(value))
	}
	for _, n := range numbers() {
		l = append(l, add(n))
	}
	for _, first := range l {
		for _, then := range l {
			doesAsAll(t, Join(first, then), []rec.Update{first, then})
		}
	}
	for _, first := range someUpdates() {
		for _, then := range someUpdates() {
			for _, value := range someValues() {
				of := state{value, true}
				want := oneBehindTheOther(of, []rec.Update{first, then})
				makesAll(t, of, want, Join(first, then))
			}
		}
	}
}

// fromEachSide calls a function with what a list is joined to, in each order in which neighbours can be joined: from the left, from the right, and from each place between.
func fromEachSide(l []rec.Update, call func(u rec.Update)) {
	if len(l) == 1 {
		call(l[0])
		return
	}
	for at := 1; at < len(l); at++ {
		fromEachSide(l[:at], func(first rec.Update) {
			fromEachSide(l[at:], func(then rec.Update) { call(Join(first, then)) })
		})
	}
}

// joinedLists: each list of so many, joined in each order, does what all of it do, of no value, of numbers, and of what is none.
func joinedLists(t *testing.T, of []rec.Update, length int) {
	eachList(of, length, func(l []rec.Update) {
		fromEachSide(l, func(u rec.Update) { doesAsAll(t, u, l) })
	})
}

func TestJoinedListsDoAsAll(t *testing.T) {
	for length := 1; length <= 4; length++ {
		joinedLists(t, someUpdates(), length)
	}
	few := []rec.Update{put("x"), put(bytesOf(3)), deletes(), add(1), add(math.MaxUint64)}
	joinedLists(t, few, 5)
	joinedLists(t, few[2:], 6)
}

// TestJoinedListsAreTheSame: in which order ever neighbours are joined, one update comes of it, and its Key is that of the last one.
func TestJoinedListsAreTheSame(t *testing.T) {
	for length := 1; length <= 4; length++ {
		eachList(someUpdates(), length, func(l []rec.Update) {
			for k := range l {
				l[k].Key = keys[k]
			}
			want := l[0]
			for _, u := range l[1:] {
				want = joined(want, u)
			}
			fromEachSide(l, func(u rec.Update) {
				if u != want || u.Key != keys[length-1] {
					t.Errorf("%v: %v, not %v", l, u, want)
				}
			})
		})
	}
}
