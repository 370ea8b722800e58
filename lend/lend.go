// Package lend is layer 1: numbers and texts as bytes, the least significant ones first. See shared/doc/01-lend.md.
package lend

const (
	mostWidth = 8   // a uint64 has no more bytes
	mostText  = 255 // one byte tells the length
)

// Write: numbers as bytes, the least significant ones first, each in a width.
func Write(widths []int, numbers []uint64) (string, bool) {
	total, right := measure(widths)
	if !right || len(widths) != len(numbers) {
		return "", false
	}
	bytes := make([]byte, 0, total)
	for i, width := range widths {
		if !fits(numbers[i], width) {
			return "", false
		}
		bytes = appendNumber(bytes, numbers[i], width)
	}
	return string(bytes), true
}

// Read: the numbers of bytes, by widths; what is left.
func Read(widths []int, s string) ([]uint64, string, bool) {
	total, right := measure(widths)
	if !right || len(s) < total {
		return nil, "", false
	}
	numbers := make([]uint64, 0, len(widths))
	for _, width := range widths {
		numbers = append(numbers, number(s[:width]))
		s = s[width:]
	}
	return numbers, s, true
}

// Size: how many bytes some widths are together.
func Size(widths []int) int {
	total, _ := measure(widths)
	return total
}

// Split: a text with its length ahead; what is left.
func Split(s string) (string, string, bool) {
	if s == "" {
		return "", "", false
	}
	length, behind := int(s[0]), s[1:]
	if len(behind) < length {
		return "", "", false
	}
	return behind[:length], behind[length:], true
}

// Join: a text with its length ahead.
func Join(s string) (string, bool) {
	if len(s) > mostText {
		return "", false
	}
	return string([]byte{byte(len(s))}) + s, true
}

// measure tells a wrong width from none at all, which Size's 0 can't.
func measure(widths []int) (int, bool) {
	total := 0
	for _, width := range widths {
		if width < 1 || width > mostWidth {
			return 0, false
		}
		total += width
	}
	return total, true
}

// fits holds for every number in the greatest width, as a shift by 64 bits leaves 0.
func fits(n uint64, width int) bool {
	return n>>(8*width) == 0
}

func appendNumber(bytes []byte, n uint64, width int) []byte {
	for i := range width {
		bytes = append(bytes, byte(n>>(8*i)))
	}
	return bytes
}

func number(bytes string) uint64 {
	var n uint64
	for i := range len(bytes) {
		n |= uint64(bytes[i]) << (8 * i)
	}
	return n
}
