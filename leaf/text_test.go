package leaf

import (
	"slices"
	"strings"
	"testing"

	"treenail/api"
)

// textOf: the bytes of entries, by other means than layer 1's.
func textOf(l []Entry) string {
	var b strings.Builder
	for _, x := range l {
		b.WriteByte(byte(len(x.Key)))
		b.WriteString(x.Key)
		b.WriteByte(byte(len(x.Value)))
		b.WriteString(x.Value)
	}
	return b.String()
}

// entriesOf: the entries of bytes that are a leaf's, by other means than layer 1's: of each entry its four pieces are looked for from the front.
func entriesOf(s string) ([]Entry, bool) {
	var l []Entry
	for at := 0; at < len(s); {
		key := int(s[at])
		if key < 1 || key > 16 || at+1+key >= len(s) {
			return nil, false
		}
		value := int(s[at+1+key])
		end := at + 2 + key + value
		if value > 32 || end > len(s) {
			return nil, false
		}
		x := Entry{s[at+1 : at+1+key], s[end-value : end]}
		if len(l) > 0 && strings.Compare(l[len(l)-1].Key, x.Key) != -1 {
			return nil, false
		}
		l, at = append(l, x), end
	}
	return l, true
}

func refusesParse(t *testing.T, s string) {
	t.Helper()
	f, e := Parse(s)
	if e != api.ErrForm {
		t.Errorf("Parse(%q): %v", s, e)
	}
	if f.Len() != 0 || len(f.List()) != 0 {
		t.Errorf("Parse(%q): %q", s, f.List())
	}
	isZero(t, f)
}

// reads: its text is that of these, and tells the same leaf.
func reads(t *testing.T, f Leaf, l ...Entry) {
	t.Helper()
	s, e := f.Text()
	if s != textOf(l) || e != api.OK {
		t.Errorf("of %q: Text() = %q, %v, not %q", l, s, e, textOf(l))
	}
	again, e := Parse(s)
	if e != api.OK {
		t.Errorf("Parse(%q): %v", s, e)
	}
	has(t, again, l...)
	if second, e := again.Text(); second != s || e != api.OK {
		t.Errorf("%q, %v, not %q", second, e, s)
	}
}

// some: with keys and values of the least and the greatest length, and bytes of every sort.
func some() []Entry {
	return []Entry{
		{"\x00", ""},
		{"\x01", "\x00"},
		{"a", "v"},
		{"b", ""},
		{"bb", strings.Repeat("v", 32)},
		{"bbb", "\x01a\x01b"},
		{"kkkkkkkkkkkkkkkk", ""},
		{"\x80", "\xff\x80"},
		{strings.Repeat("\xff", 16), strings.Repeat("\xff", 32)},
	}
}

// P16.3: Text.

func TestTextOfSome(t *testing.T) {
	for _, x := range []struct {
		l    []Entry
		want string
	}{
		{nil, ""},
		{[]Entry{{"a", ""}}, "\x01a\x00"},
		{[]Entry{{"a", "bc"}}, "\x01a\x02bc"},
		{[]Entry{{"\x00", "\x00"}}, "\x01\x00\x01\x00"},
		{[]Entry{{"a", ""}, {"ab", "\xff"}, {"\x80\x81", ""}}, "\x01a\x00\x02ab\x01\xff\x02\x80\x81\x00"},
		{[]Entry{{strings.Repeat("k", 16), strings.Repeat("v", 32)}}, "\x10kkkkkkkkkkkkkkkk\x20vvvvvvvvvvvvvvvvvvvvvvvvvvvvvvvv"},
	} {
		if s, e := leafOf(t, x.l...).Text(); s != x.want || e != api.OK {
			t.Errorf("%q: %q, %v", x.l, s, e)
		}
		reads(t, leafOf(t, x.l...), x.l...)
	}
	if s, e := (Leaf{}).Text(); s != "" || e != api.OK {
		t.Errorf("%q, %v", s, e)
	}
}

// TestTextOfEachSome: of each choice of some entries, however their leaf came to be.
func TestTextOfEachSome(t *testing.T) {
	all := some()
	for choice := range 1 << len(all) {
		f := leafOf(t, all...)
		var l []Entry
		for k, x := range all {
			if choice>>k&1 == 1 {
				l = append(l, x)
			} else {
				f = f.On(deletes(x.Key))
			}
		}
		reads(t, leafOf(t, l...), l...)
		reads(t, f, l...)
	}
}

func TestTextOfMany(t *testing.T) {
	for _, count := range []int{64, 65, 1000, 70000} {
		reads(t, leafOf(t, many(count)...), many(count)...)
	}
}

// P16.3: Parse.

func TestParseOfNone(t *testing.T) {
	f, e := Parse("")
	if e != api.OK {
		t.Errorf("%v", e)
	}
	isZero(t, f)
}

// TestParseRefuses: keys of no byte, what is too long, and lengths of more than there is; alone and behind an entry.
func TestParseRefuses(t *testing.T) {
	for _, s := range []string{
		"\x00", "\x01", "\x02", "\xff",
		"\x00\x00", "\x00\x01v", "\x01a", "\x02a", "\x02a\x00",
		"\x01a\x01", "\x01a\x02v", "\x01a\xff", "\x01a\xff" + strings.Repeat("v", 254),
		"\x01a\x00\x00", "\x01a\x00\x00\x00", "\x01a\x00b",
		"\x11" + strings.Repeat("k", 17) + "\x00",
		"\x11" + strings.Repeat("k", 17) + "\x01v",
		"\xff" + strings.Repeat("k", 255) + "\x00",
		"\x01a\x21" + strings.Repeat("v", 33),
		"\x01a\xff" + strings.Repeat("v", 255),
		"\x11" + strings.Repeat("k", 17) + "\x21" + strings.Repeat("v", 33),
		strings.Repeat("\x00", 1000), strings.Repeat("x", 1000), strings.Repeat("\x01", 1000),
	} {
		refusesParse(t, s)
		refusesParse(t, textOf(ofKeys("B"))+s)
		refusesParse(t, s+textOf(ofKeys("zzzz")))
		refusesParse(t, textOf(ofKeys("B"))+s+textOf(ofKeys("zzzz")))
	}
}

// TestParseOfEachLength: of keys and of values, at the front, in the middle and at the end.
func TestParseOfEachLength(t *testing.T) {
	for length := range 256 {
		for place, first := range map[int]string{0: "a", 2: "e", 4: "z"} {
			key := (first + strings.Repeat("\x80", length))[:length]
			l := slices.Insert(ofKeys("c", "d", "x", "y"), place, Entry{key, first})
			parses(t, textOf(l), l, 1 <= length && length <= 16)
			l[place] = Entry{first, strings.Repeat("v", length)}
			parses(t, textOf(l), l, length <= 32)
		}
	}
}

func parses(t *testing.T, s string, l []Entry, right bool) {
	t.Helper()
	if !right {
		refusesParse(t, s)
		return
	}
	f, e := Parse(s)
	if e != api.OK {
		t.Errorf("Parse(%q): %v", s, e)
	}
	has(t, f, l...)
}

// TestParseRefusesKeysThatDoNotRise: alike or falling, at each place.
func TestParseRefusesKeysThatDoNotRise(t *testing.T) {
	refusesParse(t, "\x01b\x00\x01a\x00")
	refusesParse(t, "\x01a\x00\x01a\x00")
	refusesParse(t, "\x01a\x00\x01a\x01v")
	refusesParse(t, "\x02aa\x00\x01a\x00")
	for length := 2; length <= 9; length++ {
		for at := 1; at < length; at++ {
			alike := many(length)
			alike[at].Key = alike[at-1].Key
			refusesParse(t, textOf(alike))
			falls := many(length)
			falls[at], falls[at-1] = falls[at-1], falls[at]
			refusesParse(t, textOf(falls))
		}
	}
}

func TestParseOfEachPair(t *testing.T) {
	for i, a := range risingKeys() {
		for k, b := range risingKeys() {
			l := ofKeys(a, b)
			parses(t, textOf(l), l, i < k)
		}
	}
}

// parsesAsTheTwin: a text is what other means read in it.
func parsesAsTheTwin(t *testing.T, s string) bool {
	t.Helper()
	l, right := entriesOf(s)
	parses(t, s, l, right)
	return right
}

func TestParseOfCutBytes(t *testing.T) {
	s, whole := textOf(some()), 0
	for from := range len(s) + 1 {
		parsesAsTheTwin(t, s[from:])
		if parsesAsTheTwin(t, s[:from]) {
			whole++
		}
	}
	if whole != len(some())+1 { // of the first ones, as many as there are, and of none
		t.Errorf("%d", whole)
	}
}

// TestParseOfMoreBytes: one more at each place, and none of another one.
func TestParseOfMoreBytes(t *testing.T) {
	s := textOf(some()[:6])
	for at := range len(s) + 1 {
		for _, more := range []string{"\x00", "\x01", "\x02", "a", "\xff", "\x00\x00", "\x01b", "\x01b\x00", "\x01z\x00"} {
			parsesAsTheTwin(t, s[:at]+more+s[at:])
		}
		if at < len(s) {
			parsesAsTheTwin(t, s[:at]+s[at+1:])
		}
	}
}

func TestParseOfChangedBytes(t *testing.T) {
	s := textOf(some()[:6])
	for at := range len(s) {
		for to := range 256 {
			changed := []byte(s)
			changed[at] = byte(to)
			parsesAsTheTwin(t, string(changed))
		}
	}
}

// TestParseOfAnyBytes: a walk over short texts of few bytes.
func TestParseOfAnyBytes(t *testing.T) {
	w := walk{163}
	few, right := []byte{0, 0, 1, 1, 1, 2, 'a', 'b', 3}, 0
	for range 100000 {
		b := make([]byte, w.below(14))
		for k := range b {
			b[k] = few[w.below(len(few))]
		}
		if parsesAsTheTwin(t, string(b)) {
			right++
		}
	}
	if right < 1000 {
		t.Errorf("%d of them are a leaf's", right)
	}
}

// TestParsedLeavesAreLeaves: what is made of them leaves them as they are.
func TestParsedLeavesAreLeaves(t *testing.T) {
	l := some()
	f, e := Parse(textOf(l))
	if e != api.OK {
		t.Fatal(e)
	}
	for _, x := range l {
		doesAsAll(t, f, []update{put(x.Key, "v"), add(x.Key, 1), deletes(x.Key + "\x00")})
		has(t, f.On(deletes(x.Key)), slices.DeleteFunc(slices.Clone(l), func(y Entry) bool { return x == y })...)
		has(t, f, l...)
	}
	isParted(t, f, 2)
}
