package buf

import (
	"encoding/binary"
	"math"
	"slices"
	"strings"
	"testing"

	"treenail/api"
	"treenail/rec"
)

// textOf: the bytes of updates that may be, by other means than layer 12's.
func textOf(l []rec.Update) string {
	var b []byte
	for _, u := range l {
		b = append(b, byte(u.Kind), byte(len(u.Key)))
		b = append(b, u.Key...)
		switch u.Kind {
		case rec.Put:
			b = append(b, byte(len(u.Value)))
			b = append(b, u.Value...)
		case rec.Add:
			b = binary.LittleEndian.AppendUint64(b, u.Delta)
		}
	}
	return string(b)
}

func refusesText(t *testing.T, want api.Errno, l ...rec.Update) {
	t.Helper()
	if s, e := bufferOf(t, l...).Text(); s != "" || e != want {
		t.Errorf("of %v: Text() = %q, %v, not %v", l, s, e, want)
	}
}

func refusesParse(t *testing.T, s string) {
	t.Helper()
	b, e := Parse(s)
	if e != api.ErrForm {
		t.Errorf("Parse(%q): %v", s, e)
	}
	isZero(t, b)
}

// reads: its text is that of these, and tells the same buffer.
func reads(t *testing.T, b Buffer, l ...rec.Update) {
	t.Helper()
	s, e := b.Text()
	if s != textOf(l) || e != api.OK {
		t.Errorf("of %v: Text() = %q, %v, not %q", l, s, e, textOf(l))
	}
	again, e := Parse(s)
	if e != api.OK {
		t.Errorf("Parse(%q): %v", s, e)
	}
	has(t, again, l...)
	if second, e := again.Text(); second != s || e != api.OK {
		t.Errorf("%q, %v, not %q", second, e, s)
	}
}

// someThatMayBe: of each Kind, with keys and values of the least and the greatest length.
func someThatMayBe() []rec.Update {
	return []rec.Update{
		put("\x00", ""),
		deletes("\x01"),
		put("a", "v"),
		add("b", 5),
		put("bb", strings.Repeat("v", 32)),
		add("bbb", math.MaxUint64),
		deletes("kkkkkkkkkkkkkkkk"),
		add("\x80", 0),
		put(strings.Repeat("\xff", 16), strings.Repeat("\xff", 32)),
	}
}

// P15.3: Text.

func TestTextOfSome(t *testing.T) {
	for _, x := range []struct {
		l    []rec.Update
		want string
	}{
		{nil, ""},
		{[]rec.Update{deletes("a")}, "\x02\x01a"},
		{[]rec.Update{put("a", "bc")}, "\x01\x01a\x02bc"},
		{[]rec.Update{add("a", 5)}, "\x03\x01a\x05\x00\x00\x00\x00\x00\x00\x00"},
		{[]rec.Update{put("a", ""), add("ab", 258), deletes("b")}, "\x01\x01a\x00\x03\x02ab\x02\x01\x00\x00\x00\x00\x00\x00\x02\x01b"},
	} {
		if s, e := bufferOf(t, x.l...).Text(); s != x.want || e != api.OK {
			t.Errorf("%v: %q, %v", x.l, s, e)
		}
	}
	if s, e := (Buffer{}).Text(); s != "" || e != api.OK {
		t.Errorf("%q, %v", s, e)
	}
}

// TestTextOfEachSome: of each choice of some updates, however their buffer came to be.
func TestTextOfEachSome(t *testing.T) {
	all := someThatMayBe()
	for choice := range 1 << len(all) {
		var l []rec.Update
		for k, u := range all {
			if choice>>k&1 == 1 {
				l = append(l, u)
			}
		}
		reads(t, bufferOf(t, l...), l...)
		reads(t, withAll(Buffer{}, l...), l...)
	}
}

func TestTextOfMany(t *testing.T) {
	for _, count := range []int{64, 65, 1000, 70000} {
		l := ofKeys(manyKeys(count)...)
		reads(t, bufferOf(t, l...), l...)
	}
}

// TestTextOfWhatMayNotBe: layer 12's error, of the first one in order.
func TestTextOfWhatMayNotBe(t *testing.T) {
	for _, u := range mayNotBe() {
		e := u.Check()
		if _, f := rec.Text(u); e == api.OK || f != e {
			t.Errorf("%v: %v, %v", u, e, f)
		}
		refusesText(t, e, u)
		if u.Key != "" {
			refusesText(t, e, put("\x00", "v"), u)
			refusesText(t, e, put("\x00", "v"), u, put("z", "v"))
		}
		refusesText(t, e, u, put("z", "v"))
		refusesText(t, e, u, rec.Update{Kind: 9, Key: "z"})
		refusesText(t, e, u, put("z", strings.Repeat("v", 33)))
	}
	refusesText(t, api.ErrLarge, put("", "v"))
	refusesText(t, api.ErrLarge, put("a", strings.Repeat("v", 33)), rec.Update{Key: "b"})
	refusesText(t, api.ErrArg, rec.Update{Key: "a"}, put("b", strings.Repeat("v", 33)))
	refusesText(t, api.ErrLarge, mayNotBe()...)
	refusesText(t, api.ErrArg, mayNotBe()[1:]...)
}

// TestABufferStaysBesideItsTextsError: what may not be waits on, and can be cut from the others.
func TestABufferStaysBesideItsTextsError(t *testing.T) {
	l := []rec.Update{put("a", "v"), {Kind: 9, Key: "b"}, put("c", "v")}
	b := bufferOf(t, l...)
	refusesText(t, api.ErrArg, l...)
	if _, e := b.Text(); e != api.ErrArg {
		t.Errorf("%v", e)
	}
	has(t, b, l...)
	_, left := b.Cut("b", "c")
	reads(t, left, l[0], l[2])
}

// P15.3: Parse.

func TestParseOfNone(t *testing.T) {
	b, e := Parse("")
	if e != api.OK {
		t.Errorf("%v", e)
	}
	isZero(t, b)
}

// TestParseRefusesWhatLayer12Refuses: with its error.
func TestParseRefusesWhatLayer12Refuses(t *testing.T) {
	for _, s := range []string{
		"\x00", "\x01", "\x02", "\x03", "\x04", "\xff",
		"\x02\x01", "\x02\x00", "\x02\x02a", "\x02\x11aaaaaaaaaaaaaaaaa",
		"\x01\x01a", "\x01\x01a\x01", "\x01\x01a\x21" + strings.Repeat("v", 33),
		"\x03\x01a", "\x03\x01a\x00\x00\x00\x00\x00\x00\x00",
		"\x00\x01a", "\x04\x01a", "\x02\x01aa", "\x02\x01a\x00",
		strings.Repeat("\x00", 1000), strings.Repeat("x", 1000),
	} {
		if _, e := rec.Parse(s); e != api.ErrForm {
			t.Errorf("%q: %v", s, e)
		}
		refusesParse(t, s)
		refusesParse(t, textOf(ofKeys("B"))+s)
	}
}

// TestParseRefusesKeysThatDoNotRise: alike or falling, at each place.
func TestParseRefusesKeysThatDoNotRise(t *testing.T) {
	refusesParse(t, "\x02\x01b\x02\x01a")
	refusesParse(t, "\x02\x01a\x02\x01a")
	for length := 2; length <= 9; length++ {
		for at := 1; at < length; at++ {
			alike := ofKeys(manyKeys(length)...)
			alike[at].Key = alike[at-1].Key
			refusesParse(t, textOf(alike))
			falls := ofKeys(manyKeys(length)...)
			falls[at], falls[at-1] = falls[at-1], falls[at]
			refusesParse(t, textOf(falls))
		}
	}
}

// TestParseOfEachPair: of keys that may be.
func TestParseOfEachPair(t *testing.T) {
	keys := slices.DeleteFunc(risingKeys(), func(key string) bool { return key == "" || len(key) > 16 })
	for i, a := range keys {
		for k, b := range keys {
			l := ofKeys(a, b)
			if i < k {
				reads(t, bufferOf(t, l...), l...)
			} else {
				refusesParse(t, textOf(l))
			}
		}
	}
}

// parsesAs12: a text is what layer 12 reads in it, if the keys rise.
func parsesAs12(t *testing.T, s string) {
	t.Helper()
	l, e := rec.Parse(s)
	sorted := slices.IsSortedFunc(l, byKey) && len(slices.Compact(keysOf(l))) == len(l)
	if e != api.OK || !sorted {
		refusesParse(t, s)
		return
	}
	b, e := Parse(s)
	if e != api.OK {
		t.Errorf("Parse(%q): %v", s, e)
	}
	has(t, b, l...)
}

func TestParseOfCutBytes(t *testing.T) {
	s := textOf(someThatMayBe())
	for from := range len(s) + 1 {
		parsesAs12(t, s[:from])
		parsesAs12(t, s[from:])
	}
	whole := 0
	for to := range len(s) + 1 {
		if _, e := Parse(s[:to]); e == api.OK {
			whole++
		}
	}
	if whole != len(someThatMayBe())+1 { // of the first ones, as many as there are, and of none
		t.Errorf("%d", whole)
	}
}

func TestParseOfChangedBytes(t *testing.T) {
	s := textOf(someThatMayBe()[:6])
	for at := range len(s) {
		for to := range 256 {
			changed := []byte(s)
			changed[at] = byte(to)
			parsesAs12(t, string(changed))
		}
	}
}

// TestParseOfAnyBytes: a walk over short texts of few bytes.
func TestParseOfAnyBytes(t *testing.T) {
	w := walk{153}
	few := []byte{0, 1, 1, 2, 2, 2, 3, 'a', 'b'}
	for range 100000 {
		b := make([]byte, w.below(14))
		for k := range b {
			b[k] = few[w.below(len(few))]
		}
		parsesAs12(t, string(b))
	}
}

// TestParsedBuffersAreBuffers: what is made of them leaves them as they are.
func TestParsedBuffersAreBuffers(t *testing.T) {
	l := someThatMayBe()
	b, e := Parse(textOf(l))
	if e != api.OK {
		t.Fatal(e)
	}
	for _, u := range l {
		has(t, b.With(add(u.Key, 1)), joinedByKey(append(slices.Clone(l), add(u.Key, 1)))...)
		has(t, b, l...)
	}
}
