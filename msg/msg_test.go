package msg

import (
	"math"
	"strings"
	"testing"

	"treenail/rec"
)

// numbers: 0 and 1, each power of 256 and what is beside it, and the ends of what there is.
func numbers() []uint64 {
	l := []uint64{0, 2, 3, 1<<63 - 1, 1 << 63, 1<<63 + 1, math.MaxUint64 - 1, math.MaxUint64, 0x0102030405060708}
	for place := range 8 {
		power := uint64(1) << (8 * place)
		l = append(l, power-1, power, power+1, 255*power)
	}
	return l
}

// noNumbers: texts that aren't eight bytes, from none to many more.
func noNumbers() []string {
	l := []string{"", "a", "-1", "12345678\x00", "\x0812345678", "\u00e9\u00e9\u00e9\u00e9\u00e9\u00e9\u00e9\u00e9"}
	for _, length := range []int{1, 2, 4, 6, 7, 9, 10, 15, 16, 17, 24, 31, 32, 33, 64, 255, 256, 256 + 8, 1<<16 + 8} {
		for _, b := range []byte{0, 1, 255} {
			l = append(l, repeated(b, length))
		}
	}
	return l
}

// someValues: numbers and none, each of them as what is there.
func someValues() []string {
	l := noNumbers()
	for _, n := range numbers() {
		l = append(l, bytesOf(n))
	}
	return append(l, "abcdefgh", "12345678", "\x00\xff\x00\xff\x00\xff\x00\xff")
}

func repeated(b byte, length int) string { return strings.Repeat(string([]byte{b}), length) }

func put(value string) rec.Update { return rec.Update{Kind: rec.Put, Key: "k", Value: value} }

func deletes() rec.Update { return rec.Update{Kind: rec.Delete, Key: "k"} }

func add(delta uint64) rec.Update { return rec.Update{Kind: rec.Add, Key: "k", Delta: delta} }

func isNumber(t *testing.T, value string, want uint64) {
	t.Helper()
	if n, ok := Number(value); n != want || !ok {
		t.Errorf("Number(%q) = %d, %v, not %d", value, n, ok, want)
	}
}

func isNoNumber(t *testing.T, value string) {
	t.Helper()
	if n, ok := Number(value); n != 0 || ok {
		t.Errorf("Number of %d bytes, %.20q = %d, %v", len(value), value, n, ok)
	}
}

func isValue(t *testing.T, n uint64, want string) {
	t.Helper()
	if s := Value(n); s != want {
		t.Errorf("Value(%d) = %q, not %q", n, s, want)
	}
}

// makes: what is there becomes this; one update does so alone, and as all of one.
func makes(t *testing.T, value string, u rec.Update, want string) {
	t.Helper()
	tells(t, value, true, u, want, true)
}

// makesOfNone: of no value, whatever stands beside the false.
func makesOfNone(t *testing.T, u rec.Update, want string, there bool) {
	t.Helper()
	for _, value := range []string{"", "x", "value", bytesOf(0), bytesOf(7), bytesOf(math.MaxUint64), want} {
		tells(t, value, false, u, want, there)
	}
}

func tells(t *testing.T, value string, there bool, u rec.Update, want string, stays bool) {
	t.Helper()
	if s, ok := On(value, there, u); s != want || ok != stays {
		t.Errorf("On(%.20q, %v, %v) = %.20q, %v, not %.20q, %v", value, there, u, s, ok, want, stays)
	}
	if s, ok := All(value, there, u); s != want || ok != stays {
		t.Errorf("All(%.20q, %v, %v) = %.20q, %v, not %.20q, %v", value, there, u, s, ok, want, stays)
	}
}

// P14.1: Number.

func TestNumberOfEachLength(t *testing.T) {
	for length := range 600 {
		for _, b := range []byte{0, 1, 7, 8, 127, 128, 255} {
			s := repeated(b, length)
			if length == 8 {
				isNumber(t, s, uint64(b)*0x0101010101010101)
			} else {
				isNoNumber(t, s)
			}
		}
	}
	for _, s := range noNumbers() {
		isNoNumber(t, s)
	}
	isNoNumber(t, repeated(1, 1<<20+8))
}

// TestNumberByteByByte: written out, so that it hangs on no maker here.
func TestNumberByteByByte(t *testing.T) {
	for _, x := range []struct {
		s string
		n uint64
	}{
		{"\x00\x00\x00\x00\x00\x00\x00\x00", 0},
		{"\x01\x00\x00\x00\x00\x00\x00\x00", 1},
		{"\x05\x00\x00\x00\x00\x00\x00\x00", 5},
		{"\x00\x01\x00\x00\x00\x00\x00\x00", 256},
		{"\x00\x00\x00\x00\x00\x00\x00\x01", 1 << 56},
		{"\x00\x00\x00\x00\x00\x00\x00\x80", 1 << 63},
		{"\x08\x07\x06\x05\x04\x03\x02\x01", 0x0102030405060708},
		{"\xfe\xff\xff\xff\xff\xff\xff\xff", math.MaxUint64 - 1},
		{"\xff\xff\xff\xff\xff\xff\xff\xff", math.MaxUint64},
		{"12345678", 0x3837363534333231},
	} {
		isNumber(t, x.s, x.n)
		isValue(t, x.n, x.s)
	}
}

func TestNumberOfEachByteInEachPlace(t *testing.T) {
	for place := range 8 {
		for b := range 256 {
			noughts := repeated(0, place) + string([]byte{byte(b)}) + repeated(0, 7-place)
			n := uint64(b) << (8 * place)
			isNumber(t, noughts, n)
			isValue(t, n, noughts)
			full := repeated(255, place) + string([]byte{byte(b)}) + repeated(255, 7-place)
			n = math.MaxUint64 - uint64(255-b)<<(8*place)
			isNumber(t, full, n)
			isValue(t, n, full)
		}
	}
}

// TestNumberAndOneByteMoreOrLess: a number's bytes are no number with one cut off, or one more on either side.
func TestNumberAndOneByteMoreOrLess(t *testing.T) {
	for _, n := range numbers() {
		s := bytesOf(n)
		for length := range 8 {
			isNoNumber(t, s[:length])
			isNoNumber(t, s[8-length:])
		}
		for b := range 256 {
			isNoNumber(t, s+string([]byte{byte(b)}))
			isNoNumber(t, string([]byte{byte(b)})+s)
		}
		isNoNumber(t, s+s)
	}
}

// P14.1: Value.

func TestValueOfNumbers(t *testing.T) {
	for _, n := range numbers() {
		isValue(t, n, bytesOf(n))
		isNumber(t, Value(n), n)
	}
	for bit := range 64 {
		isValue(t, 1<<bit, bytesOf(1<<bit))
		isValue(t, ^uint64(1<<bit), bytesOf(^uint64(1<<bit)))
		isNumber(t, Value(1<<bit), 1<<bit)
	}
}

func TestValueOfNumberIsTheText(t *testing.T) {
	w := walk{14}
	for range 20000 {
		s := w.text(8)
		n, ok := Number(s)
		if !ok || n != numberOf(s) {
			t.Errorf("Number(%q) = %d, %v", s, n, ok)
		}
		isValue(t, n, s)
	}
}

// P14.1: On, of a Put.

func TestPutOnEachValue(t *testing.T) {
	for _, value := range someValues() {
		for _, by := range []string{"", "a", "other", value, bytesOf(0), bytesOf(9), repeated('v', 32)} {
			makes(t, value, put(by), by)
		}
	}
}

func TestPutOnNone(t *testing.T) {
	for _, by := range someValues() {
		makesOfNone(t, put(by), by, true)
	}
}

// TestPutOfTheEmptyText: it is there.
func TestPutOfTheEmptyText(t *testing.T) {
	makes(t, "", put(""), "")
	makes(t, "a", put(""), "")
	makes(t, bytesOf(1), put(""), "")
	makesOfNone(t, put(""), "", true)
}

// P14.1: On, of a Delete.

func TestDelete(t *testing.T) {
	for _, value := range someValues() {
		tells(t, value, true, deletes(), "", false)
		tells(t, value, false, deletes(), "", false)
	}
	makesOfNone(t, deletes(), "", false)
}

// P14.1: On, of an Add.

func TestAddOnNone(t *testing.T) {
	makesOfNone(t, add(5), "\x05\x00\x00\x00\x00\x00\x00\x00", true)
	makesOfNone(t, add(0), "\x00\x00\x00\x00\x00\x00\x00\x00", true)
	for _, n := range numbers() {
		makesOfNone(t, add(n), bytesOf(n), true)
		for _, value := range someValues() {
			tells(t, value, false, add(n), bytesOf(n), true)
		}
	}
}

// TestAddOnNumbers: some sums lie at 2^64's end and past it.
func TestAddOnNumbers(t *testing.T) {
	for _, x := range []struct{ n, delta, sum uint64 }{
		{0, 0, 0},
		{7, 0, 7},
		{0, 7, 7},
		{255, 1, 256},
		{1<<56 - 1, 1, 1 << 56},
		{1 << 63, 1<<63 - 1, math.MaxUint64},
		{1 << 63, 1 << 63, 0},
		{math.MaxUint64, 0, math.MaxUint64},
		{0, math.MaxUint64, math.MaxUint64},
		{math.MaxUint64, 1, 0},
		{1, math.MaxUint64, 0},
		{5, math.MaxUint64, 4},
		{math.MaxUint64 - 1, 1, math.MaxUint64},
		{math.MaxUint64 - 1, 3, 1},
		{math.MaxUint64, math.MaxUint64, math.MaxUint64 - 1},
	} {
		makes(t, bytesOf(x.n), add(x.delta), bytesOf(x.sum))
	}
	for _, n := range numbers() {
		makes(t, bytesOf(n), add(0), bytesOf(n))
		for _, delta := range numbers() {
			makes(t, bytesOf(n), add(delta), bytesOf(sumOf(n, delta)))
		}
	}
	makes(t, "abcdefgh", add(1), "bbcdefgh")
	makes(t, "\xff\xff\xff\xff\xff\xffgh", add(1), "\x00\x00\x00\x00\x00\x00hh")
}

// TestAddOnWhatIsNoNumber: it stays, whatever the Delta.
func TestAddOnWhatIsNoNumber(t *testing.T) {
	for _, value := range noNumbers() {
		for _, delta := range numbers() {
			makes(t, value, add(delta), value)
		}
	}
}

func TestAddOnEachLength(t *testing.T) {
	for length := range 18 {
		value := repeated('a', length)
		want := value
		if length == 8 {
			want = "baaaaaaa"
		}
		makes(t, value, add(1), want)
	}
}

// P14.1: On, of a Kind that is none.

func TestKindsThatAreNone(t *testing.T) {
	for kind := range 256 {
		if kind >= 1 && kind <= 3 {
			continue
		}
		u := rec.Update{Kind: rec.Kind(kind), Key: "k", Value: "v", Delta: 5}
		for _, value := range []string{"", "a", bytesOf(0), bytesOf(7), bytesOf(math.MaxUint64), repeated(1, 9), repeated('v', 40)} {
			makes(t, value, u, value)
			makes(t, value, rec.Update{Kind: rec.Kind(kind)}, value)
		}
		makesOfNone(t, u, "", false)
		makesOfNone(t, rec.Update{Kind: rec.Kind(kind)}, "", false)
	}
}

// P14.1: On, of all.

// TestKeysMakeNoDifferenceToAValue: neither which Key an update has, nor whether it may be.
func TestKeysMakeNoDifferenceToAValue(t *testing.T) {
	for _, key := range []string{"", "a", bytesOf(3), repeated('k', 16), repeated('k', 17), repeated(0, 300)} {
		for _, value := range someValues() {
			makes(t, value, rec.Update{Kind: rec.Put, Key: key, Value: "v"}, "v")
			tells(t, value, true, rec.Update{Kind: rec.Delete, Key: key}, "", false)
			makes(t, value, rec.Update{Kind: 7, Key: key}, value)
		}
		makes(t, bytesOf(6), rec.Update{Kind: rec.Add, Key: key, Delta: 4}, bytesOf(10))
		makesOfNone(t, rec.Update{Kind: rec.Add, Key: key, Delta: 4}, bytesOf(4), true)
	}
}

// TestWhatAKindDoesntHaveDoesntCount: a Put's Delta, an Add's Value, and both of a Delete.
func TestWhatAKindDoesntHaveDoesntCount(t *testing.T) {
	for _, value := range someValues() {
		makes(t, value, rec.Update{Kind: rec.Put, Key: "k", Value: bytesOf(3), Delta: 5}, bytesOf(3))
		tells(t, value, true, rec.Update{Kind: rec.Delete, Key: "k", Value: "v", Delta: 5}, "", false)
	}
	makes(t, bytesOf(6), rec.Update{Kind: rec.Add, Key: "k", Value: bytesOf(1), Delta: 4}, bytesOf(10))
	makes(t, "six", rec.Update{Kind: rec.Add, Key: "k", Value: bytesOf(1), Delta: 4}, "six")
	makesOfNone(t, rec.Update{Kind: rec.Put, Key: "k", Value: bytesOf(3), Delta: 5}, bytesOf(3), true)
	makesOfNone(t, rec.Update{Kind: rec.Delete, Key: "k", Value: "v", Delta: 5}, "", false)
	makesOfNone(t, rec.Update{Kind: rec.Add, Key: "k", Value: bytesOf(1), Delta: 4}, bytesOf(4), true)
}

// TestLongValues: a value longer than one that may be kept is a value still.
func TestLongValues(t *testing.T) {
	long := repeated('v', 1<<20)
	makes(t, long, add(1), long)
	makes(t, "a", put(long), long)
	makesOfNone(t, put(long), long, true)
	makes(t, long, rec.Update{Kind: 9}, long)
	tells(t, long, true, deletes(), "", false)
}
