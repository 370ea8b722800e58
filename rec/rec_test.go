package rec

import (
	"math"
	"slices"
	"strings"
	"testing"

	"treenail/api"
)

var (
	kinds      = []Kind{Put, Delete, Add}
	keySizes   = []int{1, 2, 3, 8, 15, 16}
	noKeySizes = []int{0, 17, 18, 32, 33, 255, 256, 257, 256 + 16, 1 << 16, 1<<16 + 1, 1<<20 + 16}
	values     = []int{0, 1, 2, 16, 17, 31, 32}
	noValues   = []int{33, 34, 64, 255, 256, 257, 256 + 32, 1 << 16, 1<<16 + 32, 1 << 20}
	deltas     = []uint64{0, 1, 2, 255, 256, 258, 1<<32 - 1, 1 << 32, 1<<63 - 1, 1 << 63, math.MaxUint64 - 1, math.MaxUint64}
)

// The longest key and value that may be.
var (
	key16   = strings.Repeat("k", 16)
	value32 = strings.Repeat("v", 32)
)

// someUpdates: of each kind the shortest, one between, and the longest.
func someUpdates() []Update {
	return []Update{
		{Put, "a", "", 0},
		{Put, "bc", "\x00\x01\x02", 0},
		{Put, key16, value32, 0},
		{Delete, "a", "", 0},
		{Delete, "\x00\xff", "", 0},
		{Delete, key16, "", 0},
		{Add, "a", "", 0},
		{Add, "ab", "", 258},
		{Add, key16, "", math.MaxUint64},
	}
}

// notUpdates: each with what Check answers.
func notUpdates() map[Update]api.Errno {
	return map[Update]api.Errno{
		{}:                                 api.ErrLarge,
		{Put, "", "v", 0}:                  api.ErrLarge,
		{Delete, "", "", 0}:                api.ErrLarge,
		{Add, "", "", 1}:                   api.ErrLarge,
		{Put, key16 + "k", "", 0}:          api.ErrLarge,
		{Delete, key16 + "k", "", 0}:       api.ErrLarge,
		{Add, key16 + "k", "", 1}:          api.ErrLarge,
		{Put, "k", value32 + "v", 0}:       api.ErrLarge,
		{Delete, "k", value32 + "v", 0}:    api.ErrLarge,
		{4, "", "", 0}:                     api.ErrLarge,
		{0, key16 + "k", "", 0}:            api.ErrLarge,
		{Put, key16 + "k", value32, 1}:     api.ErrLarge,
		{Add, "k", value32 + "v", 1}:       api.ErrLarge,
		{Put, "", value32 + "v", 1}:        api.ErrLarge,
		{0, "k", "", 0}:                    api.ErrArg,
		{4, "k", "", 0}:                    api.ErrArg,
		{255, "k", "", 0}:                  api.ErrArg,
		{0, key16, value32, 1}:             api.ErrArg,
		{Put, "k", "", 1}:                  api.ErrArg,
		{Put, "k", "v", math.MaxUint64}:    api.ErrArg,
		{Put, key16, value32, 1 << 63}:     api.ErrArg,
		{Delete, "k", "v", 0}:              api.ErrArg,
		{Delete, "k", "", 1}:               api.ErrArg,
		{Delete, key16, value32, 1 << 63}:  api.ErrArg,
		{Add, "k", "v", 0}:                 api.ErrArg,
		{Add, key16, value32, 1}:           api.ErrArg,
		{Add, "k", "\x01" + noughts(7), 1}: api.ErrArg,
	}
}

func noughts(n int) string { return strings.Repeat("\x00", n) }

func turned(s string, at int, by byte) string {
	return s[:at] + string([]byte{s[at] ^ by}) + s[at+1:]
}

// checks: it may be, or not; what may not has no size, and no bytes.
func checks(t *testing.T, u Update, want api.Errno) {
	t.Helper()
	if e := u.Check(); e != want {
		t.Errorf("%d, a Key of %d, a Value of %d, %d: Check() = %v, not %v", u.Kind, len(u.Key), len(u.Value), u.Delta, e, want)
	}
	if want == api.OK {
		sizes(t, u, len(bytesOf(u)))
		texts(t, bytesOf(u), u)
		return
	}
	sizes(t, u, 0)
	refusesText(t, want, u)
}

func sizes(t *testing.T, u Update, want int) {
	t.Helper()
	if n := u.Size(); n != want {
		t.Errorf("%v.Size() = %d, not %d", u, n, want)
	}
}

func texts(t *testing.T, want string, l ...Update) {
	t.Helper()
	if s, e := Text(l...); s != want || e != api.OK {
		t.Errorf("Text(%v) = %q, %v, not %q", l, s, e, want)
	}
}

func refusesText(t *testing.T, want api.Errno, l ...Update) {
	t.Helper()
	if s, e := Text(l...); s != "" || e != want {
		t.Errorf("Text of %d = %q, %v, not %v", len(l), s, e, want)
	}
}

func parses(t *testing.T, s string, want ...Update) {
	t.Helper()
	if l, e := Parse(s); !slices.Equal(l, want) || e != api.OK {
		t.Errorf("Parse(%q) = %v, %v, not %v", s, l, e, want)
	}
}

func refusesParse(t *testing.T, s string) {
	t.Helper()
	if l, e := Parse(s); len(l) != 0 || e != api.ErrForm {
		t.Errorf("Parse(%q) = %v, %v", s, l, e)
	}
}

// P12.1: Check.

func TestTheKindsNumbers(t *testing.T) {
	if Put != 1 || Delete != 2 || Add != 3 {
		t.Errorf("%d, %d, %d", Put, Delete, Add)
	}
}

func TestCheckOfEachKind(t *testing.T) {
	for k := range 256 {
		want := api.ErrArg
		if k >= 1 && k <= 3 {
			want = api.OK
		}
		checks(t, Update{Kind: Kind(k), Key: "k"}, want)
		checks(t, Update{Kind: Kind(k), Key: key16}, want)
	}
}

// TestCheckOfEachKindsParts: a Put alone may have a Value, an Add alone a Delta, and none both.
func TestCheckOfEachKindsParts(t *testing.T) {
	for k := range 256 {
		value, delta := api.ErrArg, api.ErrArg
		switch Kind(k) {
		case Put:
			value = api.OK
		case Add:
			delta = api.OK
		}
		for _, n := range values[1:] {
			checks(t, Update{Kind(k), "k", strings.Repeat("v", n), 0}, value)
			checks(t, Update{Kind(k), "k", strings.Repeat("v", n), 1}, api.ErrArg)
		}
		for _, n := range deltas[1:] {
			checks(t, Update{Kind(k), "k", "", n}, delta)
			checks(t, Update{Kind(k), "k", "v", n}, api.ErrArg)
		}
		for bit := range 64 {
			checks(t, Update{Kind(k), "k", "", 1 << bit}, delta)
		}
	}
}

func TestCheckOfEachLengthOfAKey(t *testing.T) {
	for n := range 600 {
		want := api.ErrLarge
		if n >= 1 && n <= 16 {
			want = api.OK
		}
		for _, k := range kinds {
			checks(t, Update{Kind: k, Key: strings.Repeat("k", n)}, want)
		}
	}
}

func TestCheckOfEachLengthOfAValue(t *testing.T) {
	for n := range 600 {
		want := api.ErrLarge
		if n <= 32 {
			want = api.OK
		}
		checks(t, Update{Kind: Put, Key: "k", Value: strings.Repeat("v", n)}, want)
	}
}

// TestCheckOfKeysAndValuesTogether: one that may not be is enough.
func TestCheckOfKeysAndValuesTogether(t *testing.T) {
	for _, key := range slices.Concat(keySizes, noKeySizes) {
		for _, value := range slices.Concat(values, noValues) {
			want := api.OK
			if slices.Contains(noKeySizes, key) || slices.Contains(noValues, value) {
				want = api.ErrLarge
			}
			checks(t, Update{Put, strings.Repeat("k", key), strings.Repeat("v", value), 0}, want)
		}
	}
}

// TestCheckTellsErrLargeAheadOfErrArg: the chapter's sentence names it first.
func TestCheckTellsErrLargeAheadOfErrArg(t *testing.T) {
	for _, n := range noKeySizes {
		key := strings.Repeat("k", n)
		for k := range 256 {
			for _, delta := range []uint64{0, 1, math.MaxUint64} {
				checks(t, Update{Kind(k), key, "", delta}, api.ErrLarge)
				checks(t, Update{Kind(k), key, "v", delta}, api.ErrLarge)
			}
		}
	}
	for _, n := range noValues {
		value := strings.Repeat("v", n)
		for k := range 256 {
			for _, delta := range []uint64{0, 1, math.MaxUint64} {
				checks(t, Update{Kind(k), "k", value, delta}, api.ErrLarge)
				checks(t, Update{Kind(k), "", value, delta}, api.ErrLarge)
				checks(t, Update{Kind(k), key16 + "k", value, delta}, api.ErrLarge)
			}
		}
	}
}

func TestCheckOfEachThatMayNotBe(t *testing.T) {
	for u, e := range notUpdates() {
		checks(t, u, e)
	}
	for _, u := range someUpdates() {
		checks(t, u, api.OK)
	}
}

// TestLengthsAreOfBytes: not of what stands in them.
func TestLengthsAreOfBytes(t *testing.T) {
	for b := range 256 {
		one := string([]byte{byte(b)})
		for _, k := range kinds {
			checks(t, Update{Kind: k, Key: one}, api.OK)
			checks(t, Update{Kind: k, Key: strings.Repeat(one, 16)}, api.OK)
			checks(t, Update{Kind: k, Key: strings.Repeat(one, 17)}, api.ErrLarge)
		}
		checks(t, Update{Put, "k", strings.Repeat(one, 32), 0}, api.OK)
		checks(t, Update{Put, "k", strings.Repeat(one, 33), 0}, api.ErrLarge)
		checks(t, Update{Delete, "k", one, 0}, api.ErrArg)
	}
	checks(t, Update{Put, strings.Repeat("\u00e9", 8), strings.Repeat("\u00e9", 16), 0}, api.OK)
	checks(t, Update{Put, strings.Repeat("\u00e9", 9), "", 0}, api.ErrLarge)
	checks(t, Update{Put, "k", strings.Repeat("\u00e9", 17), 0}, api.ErrLarge)
}

// P12.1: Size.

func TestSizeOfEachKind(t *testing.T) {
	for _, x := range []struct {
		u    Update
		size int
	}{
		{Update{Put, "a", "", 0}, 4},
		{Update{Put, "a", "v", 0}, 5},
		{Update{Put, "ab", "xyz", 0}, 8},
		{Update{Put, key16, value32, 0}, 51},
		{Update{Delete, "a", "", 0}, 3},
		{Update{Delete, key16, "", 0}, 18},
		{Update{Add, "a", "", 0}, 11},
		{Update{Add, "a", "", 1}, 11},
		{Update{Add, "a", "", math.MaxUint64}, 11},
		{Update{Add, key16, "", 1 << 63}, 26},
	} {
		sizes(t, x.u, x.size)
	}
}

func TestSizeOfEachLength(t *testing.T) {
	for key := range 16 {
		for value := range 33 {
			sizes(t, Update{Put, strings.Repeat("k", key+1), strings.Repeat("v", value), 0}, 4+key+value)
		}
		sizes(t, Update{Delete, strings.Repeat("k", key+1), "", 0}, 3+key)
		for _, delta := range deltas {
			sizes(t, Update{Add, strings.Repeat("k", key+1), "", delta}, 11+key)
		}
	}
}

func TestSizeOfWhatMayNotBe(t *testing.T) {
	for u := range notUpdates() {
		sizes(t, u, 0)
	}
}

// P12.1: Text.

// TestTextByteByByte: written out, so that it hangs on no maker here.
func TestTextByteByByte(t *testing.T) {
	for _, x := range []struct {
		s string
		l []Update
	}{
		{"", nil},
		{"", []Update{}},
		{"\x02\x01a", []Update{{Delete, "a", "", 0}}},
		{"\x01\x01k\x00", []Update{{Put, "k", "", 0}}},
		{"\x01\x01k\x02vw", []Update{{Put, "k", "vw", 0}}},
		{"\x01\x10kkkkkkkkkkkkkkkk\x20vvvvvvvvvvvvvvvvvvvvvvvvvvvvvvvv", []Update{{Put, key16, value32, 0}}},
		{"\x02\x10kkkkkkkkkkkkkkkk", []Update{{Delete, key16, "", 0}}},
		{"\x03\x01k\x00\x00\x00\x00\x00\x00\x00\x00", []Update{{Add, "k", "", 0}}},
		{"\x03\x01k\x08\x07\x06\x05\x04\x03\x02\x01", []Update{{Add, "k", "", 0x0102030405060708}}},
		{"\x03\x10kkkkkkkkkkkkkkkk\xff\xff\xff\xff\xff\xff\xff\xff", []Update{{Add, key16, "", math.MaxUint64}}},
		{"\x03\x02ab\x02\x01\x00\x00\x00\x00\x00\x00\x01\x01c\x00\x02\x01z", []Update{{Add, "ab", "", 258}, {Put, "c", "", 0}, {Delete, "z", "", 0}}},
		{"\x02\x01z\x01\x01c\x00\x03\x02ab\x02\x01\x00\x00\x00\x00\x00\x00", []Update{{Delete, "z", "", 0}, {Put, "c", "", 0}, {Add, "ab", "", 258}}},
		{"\x02\x01a\x02\x01a\x02\x01a", []Update{{Delete, "a", "", 0}, {Delete, "a", "", 0}, {Delete, "a", "", 0}}},
	} {
		texts(t, x.s, x.l...)
		parses(t, x.s, x.l...)
	}
}

func TestTextOfPairs(t *testing.T) {
	texts(t, "")
	for _, u := range someUpdates() {
		texts(t, bytesOf(u), u)
		for _, v := range someUpdates() {
			texts(t, bytesOf(u)+bytesOf(v), u, v)
		}
	}
}

func TestTextOfMany(t *testing.T) {
	for _, n := range []int{3, 16, 255, 256, 257, 65535, 65536, 70000} {
		l := manyUpdates(n)
		texts(t, allBytesOf(l), l...)
	}
}

// manyUpdates: so many of all kinds, with keys and values of all lengths.
func manyUpdates(n int) []Update {
	l := make([]Update, n)
	for k := range l {
		l[k] = Update{Kind: kinds[k%3], Key: strings.Repeat("k", 1+k%16)}
		switch l[k].Kind {
		case Put:
			l[k].Value = value32[:k/3%33]
		case Add:
			l[k].Delta = uint64(k) << (k % 50)
		}
	}
	return l
}

func TestTextOfOneThatMayNotBe(t *testing.T) {
	many := manyUpdates(66000)
	for u, e := range notUpdates() {
		refusesText(t, e, u)
		for at := range 10 {
			refusesText(t, e, slices.Insert(someUpdates(), at, u)...)
		}
		for _, at := range []int{0, 1, 255, 256, 65535, 65999} {
			was := many[at]
			many[at] = u
			refusesText(t, e, many...)
			many[at] = was
		}
	}
}

// TestTextOfTwoThatMayNotBe: the first one's error is answered, in either order, whatever stands around them.
func TestTextOfTwoThatMayNotBe(t *testing.T) {
	right := someUpdates()
	for u, e := range notUpdates() {
		for v := range notUpdates() {
			refusesText(t, e, u, v)
			refusesText(t, e, right[0], u, right[4], v, right[8])
			refusesText(t, e, u, right[2], right[7], v)
		}
	}
}

// P12.1: Parse.

func TestParseOfTheEmptyText(t *testing.T) {
	parses(t, "")
}

// TestParseOfEachBeginning: it is what ends there, or nothing.
func TestParseOfEachBeginning(t *testing.T) {
	for _, l := range [][]Update{someUpdates(), slices.Concat(someUpdates(), someUpdates()), manyUpdates(120)} {
		ends := map[int]int{} // where so many updates end
		at := 0
		for k, u := range l {
			at += len(bytesOf(u))
			ends[at] = k + 1
		}
		s := allBytesOf(l)
		for n := range len(s) + 1 {
			if whole, ok := ends[n]; ok || n == 0 {
				parses(t, s[:n], l[:whole]...)
			} else {
				refusesParse(t, s[:n])
			}
		}
	}
}

// TestParseOfOneByteMore: there is no update of one byte.
func TestParseOfOneByteMore(t *testing.T) {
	for _, l := range [][]Update{nil, someUpdates(), manyUpdates(600)} {
		s := allBytesOf(l)
		for b := range 256 {
			refusesParse(t, s+string([]byte{byte(b)}))
		}
	}
	refusesParse(t, allBytesOf(manyUpdates(65535))+"\x02")
	for _, u := range someUpdates() {
		for b := range 256 {
			refusesParse(t, bytesOf(u)+string([]byte{byte(b)}))
		}
	}
}

// TestParseOfOneByteLess: at the beginning and at the end.
func TestParseOfOneByteLess(t *testing.T) {
	for _, u := range someUpdates() {
		s := bytesOf(u)
		refusesParse(t, s[:len(s)-1])
		parsesAsTheTwin(t, s[1:])
	}
}

func TestParseOfEachByteTurned(t *testing.T) {
	for _, l := range [][]Update{someUpdates(), {{Put, "a", "b", 0}}, {{Delete, "a", "", 0}}, {{Add, "a", "", 1}}} {
		s := allBytesOf(l)
		parses(t, s, l...)
		for at := range s {
			for by := 1; by < 256; by++ {
				parsesAsTheTwin(t, turned(s, at, byte(by)))
			}
		}
	}
}

// TestParseOfABytesTurn: what some turns are, told without the twin.
func TestParseOfABytesTurn(t *testing.T) {
	parses(t, "\x02\x01b", Update{Delete, "b", "", 0})
	parses(t, "\x01\x01a\x01\x02", Update{Put, "a", "\x02", 0})
	parses(t, "\x03\x01a\x00\x00\x00\x00\x00\x00\x00\x80", Update{Add, "a", "", 1 << 63})
	parses(t, "\x02\x01\x02\x02\x01\x02", Update{Delete, "\x02", "", 0}, Update{Delete, "\x02", "", 0})
	refusesParse(t, "\x01\x01a")
	refusesParse(t, "\x02\x01a\x00")
	refusesParse(t, "\x03\x01a\x01")
	refusesParse(t, "\x03\x01a\x00\x00\x00\x00\x00\x00\x00")
	refusesParse(t, "\x03\x01a\x00\x00\x00\x00\x00\x00\x00\x00\x00")
}

// TestParseOfLengthsBeyondWhatMayBe: though as many bytes are there.
func TestParseOfLengthsBeyondWhatMayBe(t *testing.T) {
	for n := range 256 {
		long := strings.Repeat("x", n)
		size := string([]byte{byte(n)})
		if n >= 1 && n <= 16 {
			parses(t, "\x01"+size+long+"\x00", Update{Put, long, "", 0})
			parses(t, "\x02"+size+long, Update{Delete, long, "", 0})
			parses(t, "\x03"+size+long+noughts(8), Update{Add, long, "", 0})
		} else {
			refusesParse(t, "\x01"+size+long+"\x00")
			refusesParse(t, "\x02"+size+long)
			refusesParse(t, "\x03"+size+long+noughts(8))
		}
		if n <= 32 {
			parses(t, "\x01\x01k"+size+long, Update{Put, "k", long, 0})
		} else {
			refusesParse(t, "\x01\x01k"+size+long)
		}
	}
}

// TestParseOfLengthsBeyondWhatIsThere: by one and by more, at the end of the text, alone and behind another update.
func TestParseOfLengthsBeyondWhatIsThere(t *testing.T) {
	for _, ahead := range []string{"", "\x02\x01a", "\x01\x01a\x01v", "\x03\x01a" + noughts(8)} {
		for there := range 20 {
			for n := there + 1; n < 256; n++ {
				size := string([]byte{byte(n)})
				for _, kind := range []string{"\x01", "\x02", "\x03"} {
					refusesParse(t, ahead+kind+size+strings.Repeat("k", there))
				}
				refusesParse(t, ahead+"\x01\x01k"+size+strings.Repeat("v", there))
			}
		}
		for there := range 8 {
			refusesParse(t, ahead+"\x03\x01k"+noughts(there))
		}
	}
}

// TestParseOfKindsThatThereArent: with nothing, a Value and a Delta behind the Key.
func TestParseOfKindsThatThereArent(t *testing.T) {
	for k := range 256 {
		if k >= 1 && k <= 3 {
			continue
		}
		kind := string([]byte{byte(k)})
		for _, behind := range []string{"", "\x00", "\x01v", noughts(8), "\x02\x01a"} {
			refusesParse(t, kind+"\x01k"+behind)
			refusesParse(t, "\x02\x01a"+kind+"\x01k"+behind)
			refusesParse(t, kind+"\x01k"+behind+"\x02\x01a")
			refusesParse(t, kind+behind)
		}
	}
}

// TestParseOfWhatMayNotBe: the bytes that it would have; a Value or a Delta that isn't written down makes them another update's.
func TestParseOfWhatMayNotBe(t *testing.T) {
	for u := range notUpdates() {
		s := bytesOf(u)
		unwritten := u.Kind == Put && u.Delta != 0 || u.Kind == Delete || u.Kind == Add && u.Value != ""
		if ok := parsesAsTheTwin(t, s); ok && !unwritten {
			t.Errorf("%q is an update", s)
		}
		parsesAsTheTwin(t, "\x02\x01a"+s)
		parsesAsTheTwin(t, s+"\x02\x01a")
	}
	for _, s := range []string{"\x01\x00\x00", "\x02\x00", "\x03\x00" + noughts(8), "\x02\x11" + key16 + "k", "\x01\x01k\x21" + value32 + "v", "\x04\x01k", "\x00\x01k"} {
		refusesParse(t, s)
		refusesParse(t, "\x02\x01a"+s)
		refusesParse(t, s+"\x02\x01a")
	}
}

// P12.3: Parse of Text.

func TestParseOfTextIsTheUpdates(t *testing.T) {
	for _, n := range []int{0, 1, 2, 3, 100, 65535, 65536, 70000} {
		l := manyUpdates(n)
		s, e := Text(l...)
		if e != api.OK {
			t.Fatalf("Text of %d: %v", n, e)
		}
		if told, e := Parse(s); !slices.Equal(told, l) || e != api.OK {
			t.Errorf("Parse of the Text of %d: %d, %v", n, len(told), e)
		}
	}
	for key := range 16 {
		for value := range 33 {
			both(t, Record{Updates: []Update{{Put, strings.Repeat("\x01", key+1), strings.Repeat("\x02", value), 0}}})
		}
		both(t, Record{Updates: []Update{{Delete, strings.Repeat("\xff", key+1), "", 0}}})
		for _, delta := range deltas {
			both(t, Record{Updates: []Update{{Add, strings.Repeat("\x00", key+1), "", delta}}})
		}
	}
}

// The rules that hold everywhere.

// TestListsAreLeftAsTheyAre: what is handed in isn't changed, and what lies behind its length isn't looked at.
func TestListsAreLeftAsTheyAre(t *testing.T) {
	l := append(someUpdates(), Update{Kind: 9, Key: "behind"})
	before := slices.Clone(l)
	right := l[:len(l)-1]
	texts(t, allBytesOf(before[:len(right)]), right...)
	refusesText(t, api.ErrArg, l...)
	r := Record{5, 6, right}
	both(t, r)
	if !slices.Equal(l, before) {
		t.Errorf("%v was %v", l, before)
	}
}

// TestAnswersAreNewMemory: a change of one list of updates is in no other one.
func TestAnswersAreNewMemory(t *testing.T) {
	l := someUpdates()
	s := allBytesOf(l)
	p := recordBytes(5, 6, uint16(len(l)), s)
	first, _ := Parse(s)
	second, _ := Open(p)
	for k := range l {
		first[k], second.Updates[k] = Update{}, Update{Kind: 9}
	}
	parses(t, s, l...)
	opens(t, p, Record{5, 6, l})
}
