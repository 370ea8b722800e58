package buf

import (
	"slices"
	"testing"

	"treenail/api"
	"treenail/rec"
)

// parted: which are within low and high, and which aren't; said by what is ruled out.
func parted(l []rec.Update, low, high string) (within, others []rec.Update) {
	for _, u := range l {
		switch {
		case u.Key < low, high != "" && u.Key >= high:
			others = append(others, u)
		default:
			within = append(within, u)
		}
	}
	return within, others
}

// cuts: both have what they must, together all there was, and the buffer is as it was.
func cuts(t *testing.T, l []rec.Update, low, high string) {
	t.Helper()
	b := bufferOf(t, l...)
	cut, left := b.Cut(low, high)
	within, others := parted(l, low, high)
	if !slices.Equal(cut.List(), within) || !slices.Equal(left.List(), others) || cut.Len()+left.Len() != len(l) {
		t.Errorf("of %v: Cut(%q, %q) = %v, %v, not %v, %v", l, low, high, cut.List(), left.List(), within, others)
	}
	all := slices.Concat(cut.List(), left.List())
	slices.SortFunc(all, byKey)
	if !slices.Equal(all, l) || !slices.Equal(b.List(), l) || b.Len() != len(l) {
		t.Errorf("of %v: Cut(%q, %q): %v together; %v", l, low, high, all, b.List())
	}
}

// cutsTo: written out, by keys alone.
func cutsTo(t *testing.T, keys []string, low, high string, within, others []string) {
	t.Helper()
	cut, left := bufferOf(t, ofKeys(keys...)...).Cut(low, high)
	if !slices.Equal(keysOf(cut.List()), within) || !slices.Equal(keysOf(left.List()), others) {
		t.Errorf("of %q: Cut(%q, %q) = %v, %v", keys, low, high, cut.List(), left.List())
	}
}

// P15.2.

func TestCutOfSome(t *testing.T) {
	keys := []string{"b", "d", "f", "h"}
	none := []string{}
	for _, x := range []struct {
		low, high      string
		within, others []string
	}{
		{"", "", keys, none},
		{"a", "", keys, none},
		{"b", "", keys, none},
		{"b\x00", "", keys[1:], keys[:1]},
		{"h", "", keys[3:], keys[:3]},
		{"h\x00", "", none, keys},
		{"", "a", none, keys},
		{"", "b", none, keys},
		{"", "b\x00", keys[:1], keys[1:]},
		{"", "h", keys[:3], keys[3:]},
		{"", "i", keys, none},
		{"a", "i", keys, none},
		{"b", "h", keys[:3], keys[3:]},
		{"d", "h", keys[1:3], []string{"b", "h"}},
		{"c", "g", keys[1:3], []string{"b", "h"}},
		{"d", "e", keys[1:2], []string{"b", "f", "h"}},
		{"d", "d\x00", keys[1:2], []string{"b", "f", "h"}},
		{"e", "f", none, keys},
		{"d", "d", none, keys},
		{"e", "e", none, keys},
		{"h", "b", none, keys},
		{"g", "c", none, keys},
		{"i", "a", none, keys},
		{"i", "b", none, keys},
		{"b", "a", none, keys},
		{"i", "i", none, keys},
		{"i", "j", none, keys},
		{"a", "a", none, keys},
	} {
		cutsTo(t, keys, x.low, x.high, x.within, x.others)
	}
}

func TestCutOfNone(t *testing.T) {
	for _, low := range append(risingKeys(), "a", "m") {
		for _, high := range append(risingKeys(), "a", "m") {
			within, left := Buffer{}.Cut(low, high)
			isZero(t, within)
			isZero(t, left)
		}
	}
}

// TestCutOfEachLength: by bounds that are there, and ones between, below and above.
func TestCutOfEachLength(t *testing.T) {
	for length := range 7 {
		l := ofKeys([]string{"b", "bb", "c\x00", "e", "\x80", "\xff"}[:length]...)
		bounds := about(keysOf(l))
		for _, low := range bounds {
			for _, high := range bounds {
				cuts(t, l, low, high)
			}
		}
	}
}

// TestCutOfAllKeys: of keys that differ in their last byte or in length alone; the empty one is there, too.
func TestCutOfAllKeys(t *testing.T) {
	l := ofKeys(risingKeys()...)
	for _, low := range about(risingKeys()) {
		for _, high := range risingKeys() {
			cuts(t, l, low, high)
			cuts(t, l, high, low)
		}
	}
}

func TestCutOfMany(t *testing.T) {
	keys := manyKeys(1000)
	l := ofKeys(keys...)
	w := walk{152}
	for range 1000 {
		cuts(t, l, keys[w.below(1000)], keys[w.below(1000)])
		cuts(t, l, keys[w.below(1000)]+"x", keys[w.below(1000)]+"x")
	}
}

// TestCutsAreBuffers: as good as any other, and of nothing in common with what they came of.
func TestCutsAreBuffers(t *testing.T) {
	keys := []string{"b", "d", "f", "h"}
	all := ofKeys(keys...)
	for _, low := range append(about(keys), "") {
		for _, high := range append(about(keys), "") {
			b := bufferOf(t, all...)
			cut, left := b.Cut(low, high)
			within, others := parted(all, low, high)
			has(t, cut, within...)
			has(t, left, others...)
			for _, u := range append(ofKeys("a", "c", "e", "g", "i"), put("b", ""), put("h", "")) {
				cutWith, leftWith, with := cut.With(u), left.With(u), b.With(u)
				has(t, cutWith, joinedByKey(append(slices.Clone(within), u))...)
				has(t, leftWith, joinedByKey(append(slices.Clone(others), u))...)
				has(t, with, joinedByKey(append(slices.Clone(all), u))...)
			}
			has(t, cut, within...)
			has(t, left, others...)
			has(t, b, all...)
		}
	}
}

// TestCutsOfCuts: piece by piece each update is once in one of them.
func TestCutsOfCuts(t *testing.T) {
	all := ofKeys(risingKeys()...)
	b := bufferOf(t, all...)
	rest, pieces := b, []rec.Update(nil)
	for _, high := range []string{"\x01", "a", "a\x01", "b", "\x80"} {
		piece, left := rest.Cut("", high)
		pieces, rest = append(pieces, piece.List()...), left
	}
	if pieces = append(pieces, rest.List()...); !slices.Equal(pieces, all) {
		t.Errorf("%v", pieces)
	}
	has(t, b, all...)
}

// TestCutsAreWrittenAndRead: their texts are of what they have.
func TestCutsAreWrittenAndRead(t *testing.T) {
	all := ofKeys("b", "d", "f", "h")
	cut, left := bufferOf(t, all...).Cut("c", "g")
	for _, x := range []struct {
		b    Buffer
		want []rec.Update
	}{{cut, all[1:3]}, {left, []rec.Update{all[0], all[3]}}} {
		if s, e := x.b.Text(); s != textOf(x.want) || e != api.OK {
			t.Errorf("%q, %v, not %q", s, e, textOf(x.want))
		}
	}
}
