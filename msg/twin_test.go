package msg

import (
	"encoding/binary"
	"math/big"
	"testing"

	"treenail/rec"
)

// The twin says what the chapter does by other means: numbers' bytes by package encoding/binary, sums by math/big, and updates by what they make of what is there.

// state is a value that is there, or isn't.
type state struct {
	value string
	there bool
}

func bytesOf(n uint64) string { return string(binary.LittleEndian.AppendUint64(nil, n)) }

func numberOf(s string) uint64 { return binary.LittleEndian.Uint64([]byte(s)) }

// sumOf: both together, as what is left behind all of 2^64.
func sumOf(a, b uint64) uint64 {
	sum := new(big.Int).Add(new(big.Int).SetUint64(a), new(big.Int).SetUint64(b))
	return sum.Mod(sum, new(big.Int).Lsh(big.NewInt(1), 64)).Uint64()
}

// made: what an update makes of a value, which is nil if it isn't there.
func made(value *string, u rec.Update) *string {
	switch {
	case u.Kind == 1:
		return &u.Value
	case u.Kind == 2:
		return nil
	case u.Kind == 3 && value == nil:
		s := bytesOf(u.Delta)
		return &s
	case u.Kind == 3 && len(*value) == 8:
		s := bytesOf(sumOf(numberOf(*value), u.Delta))
		return &s
	}
	return value
}

func madeOfAll(of state, l []rec.Update) state {
	var value *string
	if of.there {
		value = &of.value
	}
	for _, u := range l {
		value = made(value, u)
	}
	if value == nil {
		return state{}
	}
	return state{*value, true}
}

// joined: what an Add makes of what is known to be there, or not to be, is a Put of it; two Adds are one.
func joined(first, then rec.Update) rec.Update {
	if then.Kind == 3 && first.Kind == 3 {
		then.Delta = sumOf(first.Delta, then.Delta)
		return then
	}
	value := made(made(nil, first), then)
	if value == nil {
		return rec.Update{Kind: 2, Key: then.Key}
	}
	return rec.Update{Kind: 1, Key: then.Key, Value: *value}
}

// walk is numbers that come one from the other.
type walk struct{ state uint64 }

func (w *walk) below(n int) int {
	w.state = w.state*6364136223846793005 + 1442695040888963407
	return int(w.state >> 33 % uint64(n))
}

func (w *walk) text(length int) string {
	b := make([]byte, length)
	for k := range b {
		b[k] = byte(w.below(256))
	}
	return string(b)
}

// number: a small one, a great one, or one of any kind.
func (w *walk) number() uint64 {
	switch w.below(4) {
	case 0:
		return uint64(w.below(300))
	case 1:
		return -uint64(w.below(300))
	}
	return numberOf(w.text(8))
}

// value: a number, or a text about as long, or of any length.
func (w *walk) value() string {
	switch w.below(4) {
	case 0:
		return w.text(w.below(33))
	case 1:
		return w.text(6 + w.below(5))
	}
	return bytesOf(w.number())
}

func (w *walk) update() rec.Update {
	u := rec.Update{Kind: rec.Kind(1 + w.below(3)), Key: w.text(1 + w.below(16))}
	switch u.Kind {
	case 1:
		u.Value = w.value()
	case 3:
		u.Delta = w.number()
	}
	return u
}

func (w *walk) list(length int) []rec.Update {
	var l []rec.Update
	for range length {
		l = append(l, w.update())
	}
	return l
}

func TestAllBesideTheTwin(t *testing.T) {
	w := walk{14}
	for range 20000 {
		l := w.list(w.below(12))
		of := state{w.value(), w.below(2) == 0}
		makesAll(t, of, madeOfAll(of, l), l...)
		if len(l) > 0 {
			l[w.below(len(l))].Kind = []rec.Kind{0, 4, 255}[w.below(3)]
		}
		makesAll(t, of, madeOfAll(of, l), l...)
	}
}

func TestEachListBesideTheTwin(t *testing.T) {
	for length := range 4 {
		eachList(someUpdates(), length, func(l []rec.Update) {
			for _, of := range fewValues() {
				makesAll(t, of, madeOfAll(of, l), l...)
			}
		})
	}
}

func TestJoinBesideTheTwin(t *testing.T) {
	w := walk{15}
	for range 40000 {
		first, then := w.update(), w.update()
		if u := Join(first, then); u != joined(first, then) {
			t.Errorf("Join(%v, %v) = %v, not %v", first, then, u, joined(first, then))
		}
	}
}

// TestLongListsJoined: two neighbours at a time, wherever they stand, till one is left.
func TestLongListsJoined(t *testing.T) {
	w := walk{16}
	for range 2000 {
		l := w.list(1 + w.below(40))
		all := append([]rec.Update(nil), l...)
		for len(l) > 1 {
			at := w.below(len(l) - 1)
			l[at] = Join(l[at], l[at+1])
			l = append(l[:at+1], l[at+2:]...)
		}
		for _, of := range append(fewValues(), state{w.value(), true}) {
			makesAll(t, of, madeOfAll(of, all), l[0])
		}
	}
}
