package node

import (
	"fmt"
	"math"
	"slices"
	"strings"
	"testing"

	"treenail/api"
	"treenail/buf"
	"treenail/env"
	"treenail/rec"
)

const (
	greatestAddr = 1<<31 - 1
	least        = math.MinInt
	greatest     = math.MaxInt
)

func put(key, value string) rec.Update { return rec.Update{Kind: rec.Put, Key: key, Value: value} }

func deletes(key string) rec.Update { return rec.Update{Kind: rec.Delete, Key: key} }

func add(key string, delta uint64) rec.Update {
	return rec.Update{Kind: rec.Add, Key: key, Delta: delta}
}

// mayNotBe: each way that layer 12's Check refuses, of keys that begin with one, but for those without a key.
func mayNotBe(first string) []rec.Update {
	return []rec.Update{
		put("", "v"),
		deletes(""),
		add("", 1),
		{},
		{Kind: 0, Key: first},
		{Kind: 0, Key: first, Value: "v", Delta: 5},
		{Kind: 4, Key: first},
		{Kind: 255, Key: first},
		put(first, strings.Repeat("v", 33)),
		put(first, strings.Repeat("v", 256)),
		{Kind: rec.Put, Key: first, Delta: 1},
		{Kind: rec.Put, Key: first, Value: "v", Delta: math.MaxUint64},
		{Kind: rec.Delete, Key: first, Value: "v"},
		{Kind: rec.Delete, Key: first, Delta: 1},
		{Kind: rec.Add, Key: first, Value: "v", Delta: 1},
		put((first + strings.Repeat("k", 17))[:17], ""),
		deletes((first + strings.Repeat("k", 17))[:17]),
		add((first + strings.Repeat("k", 256))[:256], 1),
		add((first + strings.Repeat("k", 272))[:272], 1),
	}
}

// risingKeys: neighbours differ in their last byte alone, in length alone, in bytes about 127 and at the ends, and in noughts.
func risingKeys() []string {
	return []string{
		"\x00",
		"\x00\x00",
		"\x00\x01",
		"\x00\xff",
		"\x01",
		"A",
		"a",
		"a\x00",
		"a\x00\x00",
		"a\x00b",
		"a\x01",
		"aa",
		"aaaaaaaaaaaaaaa",
		"aaaaaaaaaaaaaaaa",
		"aaaaaaaaaaaaaaab",
		"ab",
		"a\x7f",
		"a\x80",
		"a\xff",
		"a\xff\xff",
		"b",
		"z",
		"\x7f",
		"\x7f\xff",
		"\x80",
		"\x80\x00",
		"\xc3\xa4",
		"\xfe",
		"\xff",
		"\xff\x00",
		"\xff\xff",
		strings.Repeat("\xff", 16),
	}
}

// manyLows: so many, rising, the first one empty.
func manyLows(count int) []string {
	lows := []string{""}
	for k := 1; k < count; k++ {
		lows = append(lows, fmt.Sprintf("k%03d", k))
	}
	return lows[:count]
}

// childrenOf: a child of each Low, of blocks that are told apart.
func childrenOf(lows ...string) []Child {
	var l []Child
	for k, low := range lows {
		l = append(l, Child{low, env.Ptr{Addr: 2 + k, Gen: uint64(1000 + k), Sum: uint32(70000 + k)}})
	}
	return l
}

// updatesOf: an update of each key, of one Kind after the other, which are told apart.
func updatesOf(keys ...string) []rec.Update {
	var l []rec.Update
	for k, key := range keys {
		l = append(l, []rec.Update{put(key, fmt.Sprint("v", k)), deletes(key), add(key, uint64(1000+k))}[k%3])
	}
	return l
}

// manyKeys: so many, rising.
func manyKeys(count int) []string {
	var keys []string
	for k := range count {
		keys = append(keys, fmt.Sprintf("m%05d", k))
	}
	return keys
}

// bufferOf doesn't ask whether updates may be.
func bufferOf(t *testing.T, l ...rec.Update) buf.Buffer {
	t.Helper()
	b, e := buf.Of(l...)
	if e != api.OK {
		t.Fatalf("buf.Of(%v): %v", l, e)
	}
	return b
}

// ofLows: a node of children of these Lows, without messages.
func ofLows(lows ...string) Node { return Node{Children: childrenOf(lows...)} }

// some: nodes that may be, of the fewest and of the most children and messages, of keys, values and numbers of every sort.
func some(t *testing.T) []Node {
	t.Helper()
	messages := []rec.Update{
		put("\x00", ""),
		deletes("\x01"),
		put("a", "v"),
		add("b", 5),
		put("bb", strings.Repeat("v", 32)),
		add("bbb", math.MaxUint64),
		deletes("kkkkkkkkkkkkkkkk"),
		add("\x80", 0),
		put(strings.Repeat("\xff", 16), strings.Repeat("\xff", 32)),
	}
	pointed := ofLows("", "\x00", "kkkkkkkkkkkkkkkk", "\x80", strings.Repeat("\xff", 16))
	pointed.Children[0].Ptr = env.Ptr{}
	pointed.Children[1].Ptr = env.Ptr{Addr: greatestAddr, Gen: math.MaxUint64, Sum: math.MaxUint32}
	pointed.Children[2].Ptr = env.Ptr{Addr: 0x01020304, Gen: 0x05060708090a0b0c, Sum: 0x0d0e0f10}
	pointed.Children[3].Ptr = env.Ptr{Addr: 0x70ffff80, Gen: 0x80ffffffffffff7f, Sum: 0xf08000ff}
	waited := pointed
	waited.Buffer = bufferOf(t, messages...)
	return []Node{
		ofLows(""),
		ofLows("", "m"),
		ofLows(manyLows(16)...),
		{make([]Child, 1), buf.Buffer{}},
		{childrenOf(""), bufferOf(t, deletes("q"))},
		{childrenOf("", "m", "t"), bufferOf(t, messages[2:4]...)},
		pointed,
		waited,
		{childrenOf(""), bufferOf(t, updatesOf(manyKeys(64)...)...)},
		{childrenOf(manyLows(16)...), bufferOf(t, updatesOf(manyKeys(64)...)...)},
	}
}

// alike: one node is as another one.
func alike(a, b Node) bool {
	return slices.Equal(a.Children, b.Children) && slices.Equal(a.Buffer.List(), b.Buffer.List())
}

// is: it may be, or not; what may has the bytes that other means tell, what may not has none.
func is(t *testing.T, n Node, right bool) {
	t.Helper()
	if n.Right() != right {
		t.Errorf("of %v, %v: Right() = %v", n.Children, n.Buffer.List(), !right)
	}
	s, e := n.Text()
	if right && (s != textOf(n) || e != api.OK) {
		t.Errorf("of %v, %v: Text() = %q, %v, not %q", n.Children, n.Buffer.List(), s, e, textOf(n))
	}
	if !right && (s != "" || e != api.ErrArg) {
		t.Errorf("of %v, %v: Text() = %q, %v", n.Children, n.Buffer.List(), s, e)
	}
}

// isWithAll: also by the bytes that it would have, if there is one byte for how many children there are, and for each length.
func isWithAll(t *testing.T, n Node, right bool) {
	t.Helper()
	is(t, n, right)
	if right {
		parses(t, textOf(n), n)
	} else {
		refusesParse(t, textOf(n))
	}
}

// P17.1: Right.

func TestRightOfTheZeroNode(t *testing.T) {
	is(t, Node{}, false)
	is(t, Node{Buffer: bufferOf(t, updatesOf("a", "b")...)}, false)
	is(t, Node{Children: []Child{}}, false)
	is(t, Node{Children: childrenOf("", "m")[:0]}, false)
}

func TestRightOfSome(t *testing.T) {
	for _, n := range some(t) {
		isWithAll(t, n, true)
	}
}

func TestRightOfEachCount(t *testing.T) {
	for count := range 40 {
		isWithAll(t, ofLows(manyLows(count)...), 1 <= count && count <= 16)
	}
	for _, count := range []int{255, 256, 257, 256 + 16, 1000, 70000} {
		var lows []string
		for k := range count {
			lows = append(lows, fmt.Sprintf("%05d", k))
		}
		lows[0] = ""
		is(t, ofLows(lows...), false)
	}
	for _, count := range []int{2, 16, 17, 257} { // all of them alike
		is(t, Node{Children: make([]Child, count)}, false)
	}
}

// TestRightOfTheFirstLow: which is empty; of one child and of more.
func TestRightOfTheFirstLow(t *testing.T) {
	for _, low := range append(risingKeys(), strings.Repeat("k", 17), strings.Repeat("k", 255)) {
		isWithAll(t, ofLows(low), false)
		isWithAll(t, ofLows(low, low+"\x00"), false)
		isWithAll(t, ofLows(low, "\xff\xff\xff", "\xff\xff\xff\xff"), false)
	}
}

// TestRightOfEachPair: of Lows, at the front, in the middle and at the end.
func TestRightOfEachPair(t *testing.T) {
	for i, a := range risingKeys() {
		isWithAll(t, ofLows("", a), true)
		isWithAll(t, ofLows("", a, ""), false)
		isWithAll(t, ofLows("", "", a), false)
		isWithAll(t, ofLows(a, ""), false)
		for k, b := range risingKeys() {
			isWithAll(t, ofLows("", a, b), i < k)
			if a > "\x01" && b < "\xff\xff" {
				isWithAll(t, ofLows("", "\x00", "\x01", a, b, "\xff\xff", "\xff\xff\xff"), i < k)
			}
		}
	}
}

// TestRightOfNeighbours: that are alike, or fall, or are empty, at each place.
func TestRightOfNeighbours(t *testing.T) {
	for length := 2; length <= 16; length++ {
		for at := 1; at < length; at++ {
			lows := manyLows(length)
			lows[at] = lows[at-1]
			isWithAll(t, ofLows(lows...), false)
			lows[at] = ""
			isWithAll(t, ofLows(lows...), false)
			lows = manyLows(length)
			lows[at], lows[at-1] = lows[at-1], lows[at]
			isWithAll(t, ofLows(lows...), false)
			lows = manyLows(length)
			lows[at] = "k" // lower than all but the first one
			isWithAll(t, ofLows(lows...), at == 1)
			lows[at] = "z"
			isWithAll(t, ofLows(lows...), at == length-1)
		}
	}
}

// TestRightOfEachLength: of Lows at each place.
func TestRightOfEachLength(t *testing.T) {
	for _, length := range []int{1, 2, 8, 15, 16, 17, 18, 32, 33, 255} {
		for at := 1; at < 16; at++ {
			lows := manyLows(16)
			lows[at] = (lows[at] + strings.Repeat("\x80", length))[:max(length, 4)]
			if at == 1 || at == 15 {
				lows[at] = (map[int]string{1: "a", 15: "z"}[at] + strings.Repeat("\x00", length))[:length]
			}
			isWithAll(t, ofLows(lows...), length <= 16)
		}
	}
	for _, length := range []int{256, 257, 256 + 16, 1 << 16} { // a length has one byte
		is(t, ofLows("", strings.Repeat("k", length)), false)
		is(t, ofLows("", "a", strings.Repeat("k", length), "z"), false)
	}
}

// TestRightOfEachAddr: at each place.
func TestRightOfEachAddr(t *testing.T) {
	for addr, right := range map[int]bool{
		least: false, -1 << 32: false, -1<<31 - 1: false, -1 << 31: false, -2: false, -1: false,
		0: true, 1: true, 4096: true, 1<<31 - 2: true, greatestAddr: true,
		1 << 31: false, 1<<31 + 1: false, 1<<32 - 1: false, 1 << 32: false, 1<<32 + 1: false, greatest: false,
	} {
		for _, length := range []int{1, 2, 3, 16} {
			for at := range length {
				n := ofLows(manyLows(length)...)
				n.Children[at].Ptr.Addr = addr
				is(t, n, right)
			}
		}
	}
}

// TestRightOfEachGenAndSum: whatever they are.
func TestRightOfEachGenAndSum(t *testing.T) {
	for _, number := range []uint64{0, 1, 255, 256, 1<<31 - 1, 1 << 31, 1<<32 - 1, 1 << 32, 1<<63 - 1, 1 << 63, math.MaxUint64} {
		n := ofLows("", "m")
		for at := range n.Children {
			n.Children[at].Ptr = env.Ptr{Addr: 1, Gen: number, Sum: uint32(number)}
			isWithAll(t, n, true)
		}
	}
}

func TestRightOfEachCountOfMessages(t *testing.T) {
	for _, count := range []int{0, 1, 2, 16, 17, 63, 64, 65, 66, 128, 255, 256, 257, 256 + 64, 5000} {
		for _, children := range []int{0, 1, 3, 16, 17} {
			n := Node{childrenOf(manyLows(children)...), bufferOf(t, updatesOf(manyKeys(count)...)...)}
			isWithAll(t, n, count <= 64 && 1 <= children && children <= 16)
		}
	}
}

// TestRightOfMessagesThatMayNotBe: alone, at the front, in the middle and at the end.
func TestRightOfMessagesThatMayNotBe(t *testing.T) {
	for _, first := range []string{"a", "m00000k", "m00004k", "z"} {
		for _, u := range mayNotBe(first) {
			if u.Check() == api.OK {
				t.Errorf("%v may be", u)
			}
			for _, count := range []int{0, 1, 2, 10, 63} {
				b := bufferOf(t, updatesOf(manyKeys(count)...)...)
				is(t, Node{childrenOf("", "m"), b}, true)
				is(t, Node{childrenOf("", "m"), b.With(u)}, false)
				is(t, Node{childrenOf(""), b.With(u)}, false)
			}
			b := bufferOf(t, updatesOf("A", "n", "y")...)
			is(t, Node{childrenOf("", "m"), b.With(u)}, false)
		}
	}
	last := rec.Update{Kind: 9, Key: "z"}
	is(t, Node{childrenOf(""), bufferOf(t, append(updatesOf(manyKeys(63)...), last)...)}, false)
	is(t, Node{childrenOf(""), bufferOf(t, append(updatesOf(manyKeys(64)...), last)...)}, false)
	is(t, Node{childrenOf(""), bufferOf(t, append(mayNotBe("")[:1], updatesOf(manyKeys(63)...)...)...)}, false)
}

// TestRightOfMessagesAnywhere: a key need not be one of a child's own.
func TestRightOfMessagesAnywhere(t *testing.T) {
	for _, key := range risingKeys() {
		for _, low := range risingKeys() {
			isWithAll(t, Node{childrenOf("", low), bufferOf(t, put(key, "v"))}, true)
		}
	}
}

// TestRightOfMoreThanOneFault: each of them alone is one, and all together.
func TestRightOfMoreThanOneFault(t *testing.T) {
	faults := []func(n *Node){
		func(n *Node) { n.Children[0].Low = "\x00" },
		func(n *Node) { n.Children[2].Low = "a" },
		func(n *Node) { n.Children[3].Low = strings.Repeat("z", 17) },
		func(n *Node) { n.Children[1].Ptr.Addr = -1 },
		func(n *Node) { n.Children = append(n.Children, childrenOf(manyLows(17)[4:]...)...) },
		func(n *Node) { n.Buffer = n.Buffer.With(rec.Update{Kind: 7, Key: "q"}) },
		func(n *Node) {
			for _, u := range updatesOf(manyKeys(65)...) {
				n.Buffer = n.Buffer.With(u)
			}
		},
	}
	for choice := range 1 << len(faults) {
		n := ofLows("", "a", "b", "c")
		for k, fault := range faults {
			if choice>>k&1 == 1 {
				fault(&n)
			}
		}
		is(t, n, choice == 0)
	}
}

// TestWhatLiesBehindTheChildrenIsNotRead: nor written.
func TestWhatLiesBehindTheChildrenIsNotRead(t *testing.T) {
	for length := 1; length <= 4; length++ {
		l := append(childrenOf("", "a", "b", "c")[:length:length], Child{"a", env.Ptr{Addr: -1}}, Child{"d", env.Ptr{}})
		before := slices.Clone(l)
		n := Node{Children: l[:length]}
		isWithAll(t, n, true)
		if k := n.Child("z"); k != length-1 {
			t.Errorf("%d: %d", length, k)
		}
		if low, high := n.Range(length - 1); low != l[length-1].Low || high != "" {
			t.Errorf("%d: %q, %q", length, low, high)
		}
		if low, high := n.Range(length); low != "" || high != "" {
			t.Errorf("%d: %q, %q", length, low, high)
		}
		if !slices.Equal(l, before) {
			t.Errorf("%v, not %v", l, before)
		}
	}
}

// TestNoCallChangesItsNode: nor its Children, nor its Buffer.
func TestNoCallChangesItsNode(t *testing.T) {
	falling := ofLows("m", "", "z", "a")
	falling.Buffer = bufferOf(t, mayNotBe("a")[4])
	for _, n := range append(some(t), Node{}, falling) {
		before := Node{slices.Clone(n.Children), bufferOf(t, n.Buffer.List()...)}
		calls := []func(){
			func() { n.Right() },
			func() { n.Child("k") },
			func() { n.Range(0) },
			func() { n.Text() },
			func() { Parse(textOf(n)) },
		}
		for k, call := range calls {
			call()
			if !alike(n, before) {
				t.Errorf("%d: %v, not %v", k, n, before)
			}
		}
	}
}
