package node

import (
	"math"
	"slices"
	"strings"
	"testing"

	"treenail/env"
	"treenail/rec"
)

// walk is numbers that come one from the other.
type walk struct{ state uint64 }

func (w *walk) below(n int) int {
	w.state = w.state*6364136223846793005 + 1442695040888963407
	return int(w.state >> 33 % uint64(n))
}

func (w *walk) number() uint64 {
	switch w.below(3) {
	case 0:
		return math.MaxUint64 - uint64(w.below(20))
	case 1:
		return uint64(w.below(1<<30)) << w.below(35)
	}
	return uint64(w.below(20))
}

// key: of few bytes, so that many of them are other ones' beginnings.
func (w *walk) key() string {
	b := make([]byte, 1+w.below(1+w.below(16)))
	for k := range b {
		b[k] = []byte{0, 1, 'a', 'b', 127, 128, 255}[w.below(7)]
	}
	return string(b)
}

// node: one that may be.
func (w *walk) node() Node {
	lows := []string{""}
	for range w.below(16) {
		lows = append(lows, w.key())
	}
	slices.Sort(lows)
	var n Node
	for _, low := range slices.Compact(lows) {
		n.Children = append(n.Children, Child{low, env.Ptr{Addr: w.below(1 << 31), Gen: w.number(), Sum: uint32(w.number())}})
	}
	for range w.below(65) {
		key := w.key()
		n.Buffer = n.Buffer.With([]rec.Update{put(key, strings.Repeat(key, 2)), deletes(key), add(key, w.number())}[w.below(3)])
	}
	return n
}

// P17.3.

// within: layer 15's word, of a key, from low on and below high.
func within(key, low, high string) bool {
	return strings.Compare(key, low) != -1 && (high == "" || strings.Compare(key, high) == -1)
}

// belongsToJustOne: each key is within the Range of one child, which Child tells; and its message is what layer 15 cuts by that.
func belongsToJustOne(t *testing.T, n Node, keys []string) {
	t.Helper()
	for _, key := range keys {
		var all []int
		for i := range n.Children {
			if low, high := n.Range(i); within(key, low, high) {
				all = append(all, i)
			}
		}
		if len(all) != 1 || all[0] != n.Child(key) {
			t.Errorf("of %v: %q is within the Ranges of %d, and belongs to %d", n.Children, key, all, n.Child(key))
		}
	}
}

// cutsByRange: all messages wait for just one child each, by layer 15's own cuts.
func cutsByRange(t *testing.T, n Node) {
	t.Helper()
	var all []rec.Update
	left := n.Buffer
	for i := range n.Children {
		cut, others := left.Cut(n.Range(i))
		for _, u := range cut.List() {
			if n.Child(u.Key) != i {
				t.Errorf("of %v: %v is cut for %d", n.Children, u, i)
			}
		}
		all, left = append(all, cut.List()...), others
	}
	if !slices.Equal(all, n.Buffer.List()) || left.Len() != 0 {
		t.Errorf("of %v: %v are cut, %v are left", n.Children, all, left.List())
	}
}

func TestEachKeyBelongsToJustOne(t *testing.T) {
	for _, n := range some(t) {
		belongsToJustOne(t, n, keysAbout(n))
		cutsByRange(t, n)
	}
	for length := 1; length <= 16; length++ {
		n := ofLows(manyLows(length)...)
		belongsToJustOne(t, n, keysAbout(n))
	}
	for i, a := range risingKeys() {
		for _, b := range risingKeys()[i+1:] {
			belongsToJustOne(t, ofLows("", a, b), risingKeys())
		}
	}
}

func TestEachKeyOfWalksBelongsToJustOne(t *testing.T) {
	for seed := range 300 {
		w := walk{uint64(seed)}
		n := w.node()
		is(t, n, true)
		keys := keysAbout(n)
		for range 50 {
			keys = append(keys, w.key())
		}
		belongsToJustOne(t, n, keys)
		cutsByRange(t, n)
		belongs(t, n)
		ranges(t, n)
	}
}

// TestParseOfTextOfWalks: is the node.
func TestParseOfTextOfWalks(t *testing.T) {
	for seed := range 3000 {
		w := walk{uint64(1000 + seed)}
		isWithAll(t, w.node(), true)
	}
}

// TestTextsTellNodesApart: two nodes with the same bytes are the same.
func TestTextsTellNodesApart(t *testing.T) {
	seen := map[string]Node{}
	for seed := range 3000 {
		w := walk{uint64(5000 + seed)}
		n := w.node()
		s, _ := n.Text()
		if other, ok := seen[s]; ok && !alike(n, other) {
			t.Errorf("%v and %v are both %q", n, other, s)
		}
		seen[s] = n
	}
}

// TestFaultsOfWalks: a node of a walk with one fault may not be, and neither may its bytes.
func TestFaultsOfWalks(t *testing.T) {
	for seed := range 3000 {
		w := walk{uint64(9000 + seed)}
		n := w.node()
		at := w.below(len(n.Children))
		switch w.below(5) {
		case 0:
			n.Children[0].Low = w.key()
		case 1:
			n.Children = slices.Insert(n.Children, at, n.Children[at])
		case 2:
			n.Children[at].Low += strings.Repeat("\xff", 17)
		case 3:
			n.Children[at].Ptr.Addr += 1 << 31
		case 4:
			n.Buffer = n.Buffer.With(put(w.key()[:1]+strings.Repeat("k", 16), ""))
		}
		isWithAll(t, n, false)
	}
}
