package sum

import (
	"hash/crc32"
	"math"
	"slices"
	"strings"
	"testing"
)

// known: checks that are published (the chapter's own; those of RFC 3720, B.4; some others), so that they hang on no reckoning here.
var known = []struct {
	text  string
	check uint32
}{
	{"", 0},
	{"a", 0xC1D04330},
	{"123456789", 0xE3069283},
	{"The quick brown fox jumps over the lazy dog", 0x22620404},
	{strings.Repeat("\x00", 32), 0x8A9136AA},
	{strings.Repeat("\xff", 32), 0x62A8AB43},
	{"\x00\x01\x02\x03\x04\x05\x06\x07\x08\x09\x0a\x0b\x0c\x0d\x0e\x0f\x10\x11\x12\x13\x14\x15\x16\x17\x18\x19\x1a\x1b\x1c\x1d\x1e\x1f", 0x46DD794E},
	{"\x1f\x1e\x1d\x1c\x1b\x1a\x19\x18\x17\x16\x15\x14\x13\x12\x11\x10\x0f\x0e\x0d\x0c\x0b\x0a\x09\x08\x07\x06\x05\x04\x03\x02\x01\x00", 0x113FDB5C},
}

// checks: some numbers that may be a check; each of them is one of some text.
var checks = []uint32{0, 1, 0x80, 0xFF, 0x100, 0x7FFFFFFF, 0x80000000, 0xE3069283, 0xFFFFFF00, math.MaxUint32}

// library is a second maker of the same checks, which shares nothing with the program.
var library = crc32.MakeTable(crc32.Castagnoli)

// spread: a text of some bytes that differ.
func spread(length, seed int) string {
	bytes := make([]byte, length)
	n := uint32(seed)*2654435761 + 1
	for i := range bytes {
		n = n*1664525 + 1013904223
		bytes[i] = byte(n >> 24)
	}
	return string(bytes)
}

// someTexts: of each length up to 70, and of greater ones; also of equal bytes.
func someTexts() []string {
	var texts []string
	for n := range 71 {
		texts = append(texts, spread(n, n), strings.Repeat("\x00", n), strings.Repeat("\xff", n))
	}
	for _, n := range []int{128, 255, 256, 257, 1024, 65537} {
		texts = append(texts, spread(n, n))
	}
	return texts
}

func isCheck(t *testing.T, what string, check, wanted uint32) {
	t.Helper()
	if check != wanted {
		t.Errorf("%q: %08X, not %08X", what, check, wanted)
	}
}

// P2.1

// byDivision: what eight steps make of a register, bit by bit, as the chapter's words tell.
func byDivision(b int) uint32 {
	register := [32]bool{}
	for i := range 8 {
		register[i] = b>>i&1 == 1
	}
	for step := 0; step < 8; step++ {
		fell := register[0]
		copy(register[:], register[1:])
		register[31] = false
		for i := range register {
			register[i] = register[i] != (fell && uint32(0x82F63B78)>>i&1 == 1)
		}
	}
	var n uint32
	for i, set := range register {
		if set {
			n += 1 << i
		}
	}
	return n
}

func TestMakeTellsTheTable(t *testing.T) {
	table := Make()
	if table == nil || len(table) != 256 {
		t.Fatalf("%v", table)
	}
	for b := range table {
		isCheck(t, "at the place of a byte", table[b], byDivision(b))
	}
	for b, register := range map[int]uint32{0: 0, 1: 0xF26B8303, 2: 0xE13B70F7, 128: 0x82F63B78, 255: 0xAD7D5351} {
		isCheck(t, "at a place that is known", table[b], register)
	}
}

func TestOfKnownTexts(t *testing.T) {
	table := Make()
	for _, x := range known {
		isCheck(t, x.text, table.Of(x.text), x.check)
		isCheck(t, x.text+", On", table.On(0, x.text), x.check)
	}
}

func TestOfEachByte(t *testing.T) {
	table := Make()
	for b := range 256 {
		one := string([]byte{byte(b)})
		isCheck(t, one, table.Of(one), crc32.Checksum([]byte(one), library))
	}
}

func TestOfManyTexts(t *testing.T) {
	table := Make()
	for _, text := range someTexts() {
		isCheck(t, "a text", table.Of(text), crc32.Checksum([]byte(text), library))
	}
}

func TestOfNoParts(t *testing.T) {
	table := Make()
	isCheck(t, "no parts", table.Of(), 0)
	isCheck(t, "a nil list", table.Of([]string(nil)...), 0)
	isCheck(t, "a list of none", table.Of([]string{}...), 0)
	isCheck(t, "an empty part", table.Of(""), 0)
	isCheck(t, "empty parts", table.Of("", "", ""), 0)
}

func TestOnEachCheck(t *testing.T) {
	table := Make()
	for _, check := range checks {
		isCheck(t, "with nothing more", table.On(check, ""), check)
		for _, more := range someTexts() {
			isCheck(t, "with more", table.On(check, more), crc32.Update(check, library, []byte(more)))
		}
	}
}

func TestOfANilTable(t *testing.T) {
	var none *Table
	isCheck(t, "no parts", none.Of(), 0)
	isCheck(t, "an empty part", none.Of(""), 0)
	isCheck(t, "a part", none.Of("123456789"), 0)
	isCheck(t, "parts", none.Of("a", "", "b"), 0)
	for _, check := range checks {
		isCheck(t, "nothing more", none.On(check, ""), 0)
		isCheck(t, "more", none.On(check, "a"), 0)
	}
}

// P2.2: the whole text alone.

func TestCutInTwo(t *testing.T) {
	table := Make()
	for _, text := range someTexts() {
		whole := crc32.Checksum([]byte(text), library)
		for cut := 0; cut <= len(text); cut += 1 + len(text)/70 {
			head, tail := text[:cut], text[cut:]
			isCheck(t, "two parts", table.Of(head, tail), whole)
			isCheck(t, "empty parts between", table.Of("", head, "", "", tail, ""), whole)
			isCheck(t, "On of a part's check", table.On(table.Of(head), tail), whole)
		}
	}
}

func TestCutInThree(t *testing.T) {
	table, text := Make(), "123456789"
	for i := range len(text) + 1 {
		for j := i; j <= len(text); j++ {
			isCheck(t, "three parts", table.Of(text[:i], text[i:j], text[j:]), 0xE3069283)
			isCheck(t, "On of On", table.On(table.On(table.Of(text[:i]), text[i:j]), text[j:]), 0xE3069283)
		}
	}
}

func TestCutInBytes(t *testing.T) {
	table := Make()
	for _, text := range someTexts() {
		whole := crc32.Checksum([]byte(text), library)
		isCheck(t, "a part a byte", table.Of(byteParts(text)...), whole)
	}
}

func byteParts(text string) []string {
	var parts []string
	for i := range len(text) {
		parts = append(parts, text[i:i+1])
	}
	return parts
}

func TestOrderOfPartsCounts(t *testing.T) {
	table := Make()
	if a, b := table.Of("a", "b"), table.Of("b", "a"); a == b {
		t.Errorf("%08X for both orders of the parts", a)
	}
}

// P2.2: bits that stand together. What stands beside a byte's bit at a byte's end hangs on which end is the first one; what is promised holds in both orders, and so both are tried.

var orders = []bool{false, true}

// most: bits that stand together, and less than 32.
const most = 31

// turned: text with those of its bits turned that pattern has at an offset.
func turned(text string, offset int, pattern uint32, highestFirst bool) string {
	bytes := []byte(text)
	for i := range 32 {
		if pattern>>i&1 == 0 {
			continue
		}
		place := (offset + i) % 8
		if highestFirst {
			place = 7 - place
		}
		bytes[(offset+i)/8] ^= 1 << place
	}
	return string(bytes)
}

// patterns: all of up to nine bits, and some of each greater width up to 31; the first and the last bit of each are set.
func patterns() []uint32 {
	list := []uint32{1}
	for width := 2; width <= 9; width++ {
		for inner := range uint32(1) << (width - 2) {
			list = append(list, 1|inner<<1|1<<(width-1))
		}
	}
	for width := 10; width <= most; width++ {
		inside := uint32(1)<<(width-1) - 2
		ends := uint32(1) | 1<<(width-1)
		for _, n := range []uint32{0, 0x55555555, 0xAAAAAAAA, 0x12345678, 0x82F63B78, 0x05EC76F1, math.MaxUint32} {
			list = append(list, ends|n&inside)
		}
	}
	return list
}

func TestBitsThatStandTogether(t *testing.T) {
	table := Make()
	for _, text := range []string{strings.Repeat("\x00", 9), strings.Repeat("\xff", 9), "123456789", spread(9, 3)} {
		check := table.Of(text)
		for _, pattern := range patterns() {
			for offset := range 8*len(text) - most + 1 {
				for _, order := range orders {
					other := turned(text, offset, pattern, order)
					if other == text || table.Of(other) == check {
						t.Fatalf("%q and %q: %08X", text, other, check)
					}
				}
			}
		}
	}
}

func TestFewBitsOfAShortText(t *testing.T) {
	table := Make()
	seen := map[uint32]bool{}
	for a := range 256 {
		for b := range 256 {
			seen[table.Of(string([]byte{byte(a), byte(b)}))] = true
		}
	}
	if len(seen) != 256*256 {
		t.Errorf("two bytes have %d checks", len(seen))
	}
}

// TestTurnedBitsAddUp: what turned bits do to a check is the same in all texts of one length, and adds up by exclusive or: on which the next test builds.
func TestTurnedBitsAddUp(t *testing.T) {
	table := Make()
	for _, text := range []string{spread(9, 1), spread(9, 2), "123456789"} {
		for i := range 8 * len(text) {
			for j := range i {
				one, other := turned(text, i, 1, false), turned(text, j, 1, false)
				both := turned(one, j, 1, false)
				isCheck(t, "two bits", table.Of(both)^table.Of(text), table.Of(one)^table.Of(other))
				isCheck(t, "a bit elsewhere", table.Of(one)^table.Of(text), ofBit(table, len(text), i, false))
			}
		}
	}
}

// ofBit: what one turned bit does to the check of a text of some length.
func ofBit(table *Table, length, offset int, highestFirst bool) uint32 {
	zero := strings.Repeat("\x00", length)
	return table.Of(zero) ^ table.Of(turned(zero, offset, 1, highestFirst))
}

// TestNoPatternAddsUpToNothing: for all patterns of 31 bits at once, which are too many to be tried one by one: none adds up to 0, as what each bit does can't be put together of what the others do.
func TestNoPatternAddsUpToNothing(t *testing.T) {
	table := Make()
	for _, length := range []int{4, 9, 128} {
		for _, order := range orders {
			for offset := range 8*length - most + 1 {
				var each []uint32
				for i := range most {
					each = append(each, ofBit(table, length, offset+i, order))
				}
				if !apart(each) {
					t.Fatalf("%d bytes, from the bit %d on", length, offset)
				}
			}
		}
	}
}

// apart: is none of some numbers the exclusive or of some others?
func apart(numbers []uint32) bool {
	byHighest := [32]uint32{}
	for _, n := range numbers {
		for i := 31; i >= 0; i-- {
			if n>>i&1 == 0 {
				continue
			}
			if byHighest[i] == 0 {
				byHighest[i] = n
				break
			}
			n ^= byHighest[i]
		}
		if n == 0 {
			return false
		}
	}
	return true
}

// The rules that hold everywhere.

func TestTablesAreApart(t *testing.T) {
	one, other := Make(), Make()
	if one == other {
		t.Fatal("one table, told twice")
	}
	for b := range one {
		one[b] = 7
	}
	isCheck(t, "behind a change of another table", other.Of("123456789"), 0xE3069283)
	isCheck(t, "of a table made behind it", Make().Of("123456789"), 0xE3069283)
}

func TestAskingChangesNothing(t *testing.T) {
	table, list := Make(), []string{"12345", "", "6789", "behind"}
	before := *table
	for range 3 {
		isCheck(t, "again", table.Of(list[:3]...), 0xE3069283)
		table.On(5, "more")
	}
	if *table != before {
		t.Error("the table was changed")
	}
	if !slices.Equal(list, []string{"12345", "", "6789", "behind"}) {
		t.Errorf("the list was changed: %q", list)
	}
}
