package node

import (
	"strings"
	"testing"

	"treenail/env"
	"treenail/rec"
)

// childOf: the one that a key belongs to, gone through from the front on.
func childOf(n Node, key string) int {
	at := -1
	for i := 0; i < len(n.Children); i++ {
		if strings.Compare(n.Children[i].Low, key) != 1 {
			at = i
		}
	}
	return at
}

// keysAbout: Lows, their beginnings, what begins with them, their neighbours, and the ends of all texts.
func keysAbout(n Node) []string {
	keys := []string{"", "\x00", "m", "z", strings.Repeat("\xff", 16), strings.Repeat("\xff", 17), strings.Repeat("\xff", 400)}
	keys = append(keys, risingKeys()...)
	for _, c := range n.Children {
		low := c.Low
		keys = append(keys, low, low+"\x00", low+"a", low+"\xff", low+low, low+strings.Repeat("k", 300))
		if low == "" {
			continue
		}
		ahead, last := low[:len(low)-1], low[len(low)-1]
		keys = append(keys, ahead, ahead+string([]byte{last - 1}), ahead+string([]byte{last + 1}), ahead+string([]byte{last - 1, 255}))
	}
	return keys
}

// belongs: each key to the child that other means tell.
func belongs(t *testing.T, n Node) {
	t.Helper()
	for _, key := range keysAbout(n) {
		if k := n.Child(key); k != childOf(n, key) {
			t.Errorf("of %v: Child(%q) = %d, not %d", n.Children, key, k, childOf(n, key))
		}
	}
}

// ranges: of each child its Low and the next one's; none of others.
func ranges(t *testing.T, n Node) {
	t.Helper()
	count := len(n.Children)
	for i, c := range n.Children {
		want := ""
		if i < count-1 {
			want = n.Children[i+1].Low
		}
		if low, high := n.Range(i); low != c.Low || high != want {
			t.Errorf("of %v: Range(%d) = %q, %q, not %q, %q", n.Children, i, low, high, c.Low, want)
		}
	}
	for _, i := range []int{least, least + 1, -1 << 32, -256, -2, -1, count, count + 1, count + 2, 256 + count - 1, 1 << 32, 1<<32 + count - 1, greatest - 1, greatest} {
		if low, high := n.Range(i); low != "" || high != "" {
			t.Errorf("of %v: Range(%d) = %q, %q", n.Children, i, low, high)
		}
	}
}

// noNodes: that may not be, each by another fault.
func noNodes() []Node {
	astray := ofLows("", "m")
	astray.Children[1].Ptr = env.Ptr{Addr: -1}
	waiting := ofLows("", "m")
	for _, u := range updatesOf(manyKeys(65)...) {
		waiting.Buffer = waiting.Buffer.With(u)
	}
	wrong := ofLows("", "m")
	wrong.Buffer = wrong.Buffer.With(rec.Update{Kind: 9, Key: "m"})
	return []Node{
		{},
		{Children: []Child{}},
		{Children: make([]Child, 5)},
		ofLows("m"),
		ofLows("m", "t"),
		ofLows("m", ""),
		ofLows("t", "m"),
		ofLows("t", "m", "a"),
		ofLows("", "m", "a"),
		ofLows("", "m", "m"),
		ofLows("", "m", "m", "t"),
		ofLows("", "", "m", "t"),
		ofLows("", "m", "a", "z"),
		ofLows("", "m", "a", "z", "b", "\xff"),
		ofLows("", "t", "", "a"),
		ofLows("", "z", "y", "x", "w", "v"),
		ofLows("m", "m", "m"),
		ofLows("", strings.Repeat("k", 17), strings.Repeat("k", 300)),
		ofLows(manyLows(17)...),
		ofLows(manyLows(300)...),
		astray,
		waiting,
		wrong,
	}
}

// P17.1: Child.

func TestChildOfSome(t *testing.T) {
	for _, x := range []struct {
		lows []string
		key  string
		want int
	}{
		{[]string{"", "m"}, "m", 1},
		{[]string{"", "m"}, "", 0},
		{[]string{"", "m"}, "l", 0},
		{[]string{"", "m"}, "l\xff", 0},
		{[]string{"", "m"}, "m\x00", 1},
		{[]string{"", "m"}, "z", 1},
		{[]string{""}, "", 0},
		{[]string{""}, strings.Repeat("\xff", 400), 0},
		{[]string{"", "mm", "t"}, "m", 0},
		{[]string{"", "mm", "t"}, "mm", 1},
		{[]string{"", "mm", "t"}, "mmm", 1},
		{[]string{"", "mm", "t"}, "t", 2},
		{[]string{"", "\x00"}, "", 0},
		{[]string{"", "\x00"}, "\x00", 1},
		{[]string{"", "a", "\x80"}, "\x7f", 1},
		{[]string{"", "a", "\x80"}, "\x80", 2},
		{[]string{"", "a", "\x80"}, "\xff", 2},
		{nil, "", -1},
		{nil, "a", -1},
		{[]string{"m"}, "", -1},
		{[]string{"m"}, "l", -1},
		{[]string{"m"}, "m", 0},
		{[]string{"m", ""}, "a", 1},
		{[]string{"m", ""}, "z", 1},
		{[]string{"", "m", "a"}, "l", 2},
		{[]string{"", "m", "a"}, "z", 2},
		{[]string{"", "z", "a", "m"}, "l", 2},
		{[]string{"", "z", "a", "m"}, "z", 3},
		{[]string{"", "a", "z", "m"}, "n", 3},
		{[]string{"", "a", "a", "m"}, "a", 2},
		{[]string{"", "", "m"}, "", 1},
		{[]string{"t", "m"}, "a", -1},
		{[]string{"t", "m"}, "n", 1},
		{[]string{"m", "t"}, "n", 0},
	} {
		if k := ofLows(x.lows...).Child(x.key); k != x.want {
			t.Errorf("of %q: Child(%q) = %d, not %d", x.lows, x.key, k, x.want)
		}
	}
}

func TestChildOfNodesThatMayBe(t *testing.T) {
	for _, n := range some(t) {
		belongs(t, n)
	}
	for length := 1; length <= 16; length++ {
		belongs(t, ofLows(manyLows(length)...))
	}
	for i, a := range risingKeys() {
		belongs(t, ofLows("", a))
		for _, b := range risingKeys()[i+1:] {
			belongs(t, ofLows("", a, b))
		}
	}
}

func TestChildOfNodesThatMayNotBe(t *testing.T) {
	for _, n := range noNodes() {
		is(t, n, false)
		belongs(t, n)
	}
}

// TestChildOfEachList: of up to five of some Lows, in any order, a child is told of each key.
func TestChildOfEachList(t *testing.T) {
	for length := range 6 {
		eachList([]string{"", "a", "a\x00", "m"}, length, func(lows []string) {
			n := ofLows(lows...)
			for _, key := range []string{"", "\x00", "a", "a\x00", "a\x01", "l", "m", "n"} {
				if k := n.Child(key); k != childOf(n, key) {
					t.Errorf("of %q: Child(%q) = %d, not %d", lows, key, k, childOf(n, key))
				}
			}
			ranges(t, n)
		})
	}
}

// eachList calls a function with each list of so many of some.
func eachList[T any](of []T, length int, call func(l []T)) {
	if length == 0 {
		call(nil)
		return
	}
	eachList(of, length-1, func(l []T) {
		for _, x := range of {
			call(append(l[:len(l):len(l)], x))
		}
	})
}

// P17.1: Range.

func TestRangeOfSome(t *testing.T) {
	for _, x := range []struct {
		lows      []string
		i         int
		low, high string
	}{
		{[]string{""}, 0, "", ""},
		{[]string{"", "m"}, 0, "", "m"},
		{[]string{"", "m"}, 1, "m", ""},
		{[]string{"", "m"}, 2, "", ""},
		{[]string{"", "m"}, -1, "", ""},
		{[]string{"", "m", "t"}, 1, "m", "t"},
		{[]string{"", "m", "t"}, 2, "t", ""},
		{nil, 0, "", ""},
		{nil, -1, "", ""},
		{[]string{"m"}, 0, "m", ""},
		{[]string{"t", "m"}, 0, "t", "m"},
		{[]string{"", "", "m"}, 0, "", ""},
		{[]string{"", "", "m"}, 1, "", "m"},
		{[]string{"m", ""}, 0, "m", ""},
		{[]string{"m", ""}, 1, "", ""},
	} {
		if low, high := ofLows(x.lows...).Range(x.i); low != x.low || high != x.high {
			t.Errorf("of %q: Range(%d) = %q, %q", x.lows, x.i, low, high)
		}
	}
}

func TestRangeOfNodesThatMayBe(t *testing.T) {
	for _, n := range some(t) {
		ranges(t, n)
	}
	for length := 1; length <= 16; length++ {
		ranges(t, ofLows(manyLows(length)...))
	}
}

func TestRangeOfNodesThatMayNotBe(t *testing.T) {
	for _, n := range noNodes() {
		ranges(t, n)
	}
}
