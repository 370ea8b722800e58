package buf

import (
	"encoding/binary"
	"fmt"
	"math"
	"math/big"
	"slices"
	"testing"

	"treenail/msg"
	"treenail/rec"
)

// The twin keeps all updates of each key, as they came, and says by other means than layer 14's what they make of values.

// state is a value that is there, or isn't.
type state struct {
	value string
	there bool
}

func bytesOf(n uint64) string { return string(binary.LittleEndian.AppendUint64(nil, n)) }

// sumOf: both together, as what is left behind all of 2^64.
func sumOf(value string, delta uint64) string {
	sum := new(big.Int).SetUint64(binary.LittleEndian.Uint64([]byte(value)))
	sum.Add(sum, new(big.Int).SetUint64(delta))
	return bytesOf(sum.Mod(sum, new(big.Int).Lsh(big.NewInt(1), 64)).Uint64())
}

func (s state) on(u rec.Update) state {
	switch {
	case u.Kind == 1:
		return state{u.Value, true}
	case u.Kind == 2:
		return state{}
	case !s.there:
		return state{bytesOf(u.Delta), true}
	case len(s.value) == 8:
		return state{sumOf(s.value, u.Delta), true}
	}
	return s
}

// fewStates: none, numbers, and what is none.
func fewStates() []state {
	return []state{
		{"", false},
		{"", true},
		{"x", true},
		{"1234567", true},
		{"123456789", true},
		{bytesOf(0), true},
		{bytesOf(7), true},
		{bytesOf(math.MaxUint64), true},
	}
}

// doesAsAll: of each key that there is in a list, what waits makes of each value what all of the list make that are of the key; of others nothing waits.
func doesAsAll(t *testing.T, b Buffer, all []rec.Update) {
	t.Helper()
	ofKey := map[string][]rec.Update{}
	for _, u := range all {
		ofKey[u.Key] = append(ofKey[u.Key], u)
	}
	if b.Len() != len(ofKey) {
		t.Errorf("%d wait of %d keys", b.Len(), len(ofKey))
	}
	for key, l := range ofKey {
		doesAsList(t, b, key, l)
	}
}

func doesAsList(t *testing.T, b Buffer, key string, l []rec.Update) {
	t.Helper()
	waits, ok := b.Get(key)
	if !ok || waits.Key != key {
		t.Errorf("Get(%q) = %v, %v", key, waits, ok)
	}
	for _, s := range fewStates() {
		want := s
		for _, u := range l {
			want = want.on(u)
		}
		if value, there := msg.On(s.value, s.there, waits); value != want.value || there != want.there {
			t.Errorf("%v for %v: of %v it makes %q, %v, not %v", waits, l, s, value, there, want)
		}
	}
}

// cutsDoAsAll: what is cut does as the updates of keys within do, what is left as the others.
func cutsDoAsAll(t *testing.T, b Buffer, low, high string, all []rec.Update) {
	t.Helper()
	cut, left := b.Cut(low, high)
	within, others := parted(all, low, high)
	doesAsAll(t, cut, within)
	doesAsAll(t, left, others)
	both := slices.Concat(cut.List(), left.List())
	slices.SortFunc(both, byKey)
	if !slices.Equal(both, b.List()) {
		t.Errorf("%v and %v aren't %v", cut.List(), left.List(), b.List())
	}
}

// walk is numbers that come one from the other.
type walk struct{ state uint64 }

func (w *walk) below(n int) int {
	w.state = w.state*6364136223846793005 + 1442695040888963407
	return int(w.state >> 33 % uint64(n))
}

func (w *walk) number() uint64 {
	switch w.below(3) {
	case 0:
		return -uint64(w.below(20))
	case 1:
		return uint64(w.below(1 << 30))
	}
	return uint64(w.below(20))
}

// key: one of few, of which some are other ones' beginnings.
func (w *walk) key() string {
	return []string{"a", "a\x00", "aa", "b", "m", "\x7f", "\x80", "\xff", "\x00", "mmmmmmmmmmmmmmmm"}[w.below(10)]
}

func (w *walk) update() rec.Update {
	switch w.below(4) {
	case 0:
		return put(w.key(), []string{"", "x", bytesOf(w.number()), bytesOf(w.number()), "a longer value"}[w.below(5)])
	case 1:
		return deletes(w.key())
	}
	return add(w.key(), w.number())
}

// bound: a key, one beside a key, or none.
func (w *walk) bound() string {
	switch w.below(4) {
	case 0:
		return ""
	case 1:
		return w.key() + "\x00"
	}
	return w.key()
}

// P15.4.

// eachUpdates calls a function with each list of so many of some updates.
func eachUpdates(of []rec.Update, length int, call func(l []rec.Update)) {
	if length == 0 {
		call(nil)
		return
	}
	eachUpdates(of, length-1, func(l []rec.Update) {
		for _, u := range of {
			call(append(l[:len(l):len(l)], u))
		}
	})
}

// TestEachListDoesAsAll: each list of up to five updates of one key, and of two.
func TestEachListDoesAsAll(t *testing.T) {
	one := []rec.Update{put("k", "x"), put("k", bytesOf(3)), deletes("k"), add("k", 1), add("k", math.MaxUint64)}
	two := []rec.Update{put("k", bytesOf(3)), deletes("k"), add("k", 1), put("j", "x"), deletes("j"), add("j", 2)}
	for _, some := range [][]rec.Update{one, two} {
		for length := range 6 {
			eachUpdates(some, length, func(l []rec.Update) { doesAsAll(t, withAll(Buffer{}, l...), l) })
		}
	}
}

func TestWalksDoAsAll(t *testing.T) {
	for seed := range 60 {
		w := walk{uint64(seed)}
		var b Buffer
		var all []rec.Update
		for range w.below(120) {
			u := w.update()
			b, all = b.With(u), append(all, u)
			if !slices.Equal(b.List(), joinedByKey(all)) {
				t.Fatalf("%v, not %v", b.List(), joinedByKey(all))
			}
			doesAsAll(t, b, all)
			cutsDoAsAll(t, b, w.bound(), w.bound(), all)
		}
		reads(t, b, joinedByKey(all)...)
	}
}

// TestWalksOfPieces: buffers that are cut go on apart, each with the updates of its keys, and each does as its own.
func TestWalksOfPieces(t *testing.T) {
	for seed := range 200 {
		w := walk{uint64(1000 + seed)}
		low, high := w.bound(), w.bound()
		var b Buffer
		var all []rec.Update
		for range 30 {
			u := w.update()
			b, all = b.With(u), append(all, u)
		}
		cut, left := b.Cut(low, high)
		within, others := parted(all, low, high)
		for range 30 {
			u := w.update()
			if in, _ := parted([]rec.Update{u}, low, high); len(in) == 1 {
				cut, within = cut.With(u), append(within, u)
			} else {
				left, others = left.With(u), append(others, u)
			}
		}
		doesAsAll(t, cut, within)
		doesAsAll(t, left, others)
		doesAsAll(t, b, all)
	}
}

// TestWalksOfHandingOn: what is cut from one buffer goes into another one, behind what waits there; both together do as all.
func TestWalksOfHandingOn(t *testing.T) {
	for seed := range 200 {
		w := walk{uint64(2000 + seed)}
		var upper, lower Buffer
		var all []rec.Update
		for range 60 {
			u := w.update()
			upper, all = upper.With(u), append(all, u)
			if w.below(4) == 0 {
				cut, left := upper.Cut(w.bound(), w.bound())
				upper, lower = left, withAll(lower, cut.List()...)
			}
		}
		doesAsAll(t, withAll(lower, upper.List()...), all)
	}
}

// TestManyOfAnyOrder: a thousand keys, three updates of each, in an order that jumps about.
func TestManyOfAnyOrder(t *testing.T) {
	var all []rec.Update
	for k := range 3000 {
		key := fmt.Sprintf("k%04d", k*1237%1000)
		all = append(all, []rec.Update{put(key, bytesOf(uint64(k))), add(key, uint64(k)), add(key, 5)}[k/1000])
	}
	b := withAll(Buffer{}, all...)
	doesAsAll(t, b, all)
	cutsDoAsAll(t, b, "k0250", "k0750", all)
}
