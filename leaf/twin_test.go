package leaf

import (
	"encoding/binary"
	"math/big"
	"slices"
	"strings"
	"testing"

	"treenail/api"
	"treenail/rec"
)

type update = rec.Update

// twin is values by their keys, in a map. It says what updates make of values by other means than layer 14's, and which may be by other means than layer 12's.
type twin map[string]string

func bytesOf(n uint64) string { return string(binary.LittleEndian.AppendUint64(nil, n)) }

// sumOf: both together, as what is left behind all of 2^64.
func sumOf(value string, delta uint64) string {
	sum := new(big.Int).SetUint64(binary.LittleEndian.Uint64([]byte(value)))
	sum.Add(sum, new(big.Int).SetUint64(delta))
	return bytesOf(sum.Mod(sum, new(big.Int).Lsh(big.NewInt(1), 64)).Uint64())
}

func mayBe(u update) bool {
	keyed := u.Key != "" && len(u.Key) < 17
	return keyed && (u == put(u.Key, u.Value) && len(u.Value) < 33 || u == deletes(u.Key) || u == add(u.Key, u.Delta))
}

func (w twin) on(u update) {
	value, there := w[u.Key]
	switch {
	case !mayBe(u):
	case u.Kind == 1:
		w[u.Key] = u.Value
	case u.Kind == 2:
		delete(w, u.Key)
	case !there:
		w[u.Key] = bytesOf(u.Delta)
	case len(value) == 8:
		w[u.Key] = sumOf(value, u.Delta)
	}
}

func (w twin) list() []Entry {
	var l []Entry
	for key, value := range w {
		l = append(l, Entry{key, value})
	}
	slices.SortFunc(l, func(a, b Entry) int { return strings.Compare(a.Key, b.Key) })
	return l
}

// walk is numbers that come one from the other.
type walk struct{ state uint64 }

func (w *walk) below(n int) int {
	w.state = w.state*6364136223846793005 + 1442695040888963407
	return int(w.state >> 33 % uint64(n))
}

func (w *walk) number() uint64 {
	switch w.below(3) {
	case 0:
		return -uint64(w.below(20))
	case 1:
		return uint64(w.below(1 << 30))
	}
	return uint64(w.below(20))
}

// key: one of few, of which some are other ones' beginnings.
func (w *walk) key() string {
	return []string{"a", "a\x00", "aa", "b", "m", "\x7f", "\x80", "\xff", "\x00", "mmmmmmmmmmmmmmmm"}[w.below(10)]
}

func (w *walk) update() update {
	switch w.below(12) {
	case 0, 1, 2:
		return put(w.key(), []string{"", "x", bytesOf(w.number()), bytesOf(w.number()), "a longer value"}[w.below(5)])
	case 3, 4, 5:
		return deletes(w.key())
	case 6:
		l := mayNotBe(w.key()[:1])
		return l[w.below(len(l))]
	}
	return add(w.key(), w.number())
}

func (w *walk) updates(count int) []update {
	var l []update
	for range count {
		l = append(l, w.update())
	}
	return l
}

// P16.4.

// isAsTheTwin: the leaf, the one that its text tells, and all its parts together.
func isAsTheTwin(t *testing.T, f Leaf, twin twin) {
	t.Helper()
	want := twin.list()
	if f.Len() != len(twin) {
		t.Errorf("%d, not %d", f.Len(), len(twin))
	}
	reads(t, f, want...)
	has(t, f, want...)
	for most := range len(want) + 2 {
		isParted(t, f, most)
		if !slices.Equal(together(f.Parts(most)), want) {
			t.Errorf("%q, not %q", together(f.Parts(most)), want)
		}
	}
}

func TestWalksAreAsTheTwin(t *testing.T) {
	for seed := range 60 {
		w := walk{uint64(seed)}
		f, twin := Leaf{}, twin{}
		for range w.below(80) {
			l := w.updates(w.below(5))
			f = f.On(l...)
			for _, u := range l {
				twin.on(u)
			}
			isAsTheTwin(t, f, twin)
		}
	}
}

// TestWalksByText: each leaf goes on as the one that its text tells.
func TestWalksByText(t *testing.T) {
	for seed := range 200 {
		w := walk{uint64(1000 + seed)}
		f, twin := Leaf{}, twin{}
		for range 40 {
			u := w.update()
			f = f.On(u)
			twin.on(u)
			s, e := f.Text()
			if e != api.OK {
				t.Fatal(e)
			}
			if f, e = Parse(s); e != api.OK {
				t.Fatalf("Parse(%q): %v", s, e)
			}
		}
		isAsTheTwin(t, f, twin)
	}
}

// TestWalksByParts: parts go on apart, each with the updates of its keys; together they are as the whole.
func TestWalksByParts(t *testing.T) {
	for seed := range 200 {
		w := walk{uint64(2000 + seed)}
		whole := Leaf{}.On(append(w.updates(60), put("n", ""))...)
		parts := whole.Parts(1 + w.below(4))
		lows := lowsOf(parts)
		for range 40 {
			u := w.update()
			at := len(parts) - 1
			for at > 0 && lows[at] > u.Key {
				at--
			}
			parts[at], whole = parts[at].On(u), whole.On(u)
		}
		if !slices.Equal(together(parts), whole.List()) {
			t.Errorf("%q, not %q", together(parts), whole.List())
		}
	}
}

// lowsOf: the first key of each part, none of which is without entries.
func lowsOf(parts []Leaf) []string {
	var lows []string
	for _, p := range parts {
		lows = append(lows, p.List()[0].Key)
	}
	return lows
}
