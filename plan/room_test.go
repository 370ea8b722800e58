package plan

import (
	"math"
	"slices"
	"strings"
	"testing"

	"treenail/api"
	"treenail/env"
	"treenail/leaf"
	"treenail/node"
	"treenail/rec"
	"treenail/sum"
)

// P18.3: what a plan allows has room in a block.

// hasRoom: by layer 4's Room; and a block of it is sealed, and opened again.
func hasRoom(t *testing.T, table *sum.Table, size int, kind env.Kind, text string) {
	t.Helper()
	if len(text) > env.Room(size) {
		t.Errorf("%d bytes in a size of %d", len(text), size)
	}
	image, _, e := env.Seal(table, size, env.Head{Kind: kind, Addr: 5, Gen: 7}, text)
	if e != api.OK {
		t.Errorf("%d bytes in a size of %d: %v", len(text), size, e)
	}
	if h, payload, e := env.Open(table, image); h.Kind != kind || payload != text || e != api.OK {
		t.Errorf("%d bytes in a size of %d: opened as %v, %d bytes, %v", len(text), size, h, len(payload), e)
	}
}

// sized is a plan that Best tells, and the least size of which it does.
type sized struct {
	p    Plan
	size int
}

// bests: all plans that Best tells.
func bests(t *testing.T) []sized {
	t.Helper()
	seen := map[Plan]bool{}
	var l []sized
	for size := 128; size <= 1024; size++ {
		for fanout := 3; fanout <= 16; fanout++ {
			if p, e := Best(size, fanout); e == api.OK && !seen[p] {
				seen[p] = true
				l = append(l, sized{p, size})
			}
		}
	}
	if len(l) < 100 {
		t.Fatalf("%d plans", len(l))
	}
	return l
}

// TestFullOnesHaveRoom: of each size and Fanout of which there is a plan.
func TestFullOnesHaveRoom(t *testing.T) {
	table := sum.Make()
	for size := 128; size <= 1024; size++ {
		for fanout := 3; fanout <= 16; fanout++ {
			if p, e := Best(size, fanout); e == api.OK {
				hasRoom(t, table, size, env.Node, nodeText(t, children(p.Fanout), puts(p.Buffer)))
				hasRoom(t, table, size, env.Leaf, leafText(t, entries(p.Leaf)))
			}
		}
	}
}

// TestEmptierOnesHaveRoom: with each count of children, of messages, and of entries.
func TestEmptierOnesHaveRoom(t *testing.T) {
	table := sum.Make()
	for _, x := range bests(t) {
		for count := 1; count <= x.p.Fanout; count++ {
			for messages := range x.p.Buffer + 1 {
				hasRoom(t, table, x.size, env.Node, nodeText(t, children(count), puts(messages)))
			}
		}
		for count := range x.p.Leaf + 1 {
			hasRoom(t, table, x.size, env.Leaf, leafText(t, entries(count)))
		}
	}
}

// TestOtherMessagesHaveRoom: no other Kind is longer than a Put.
func TestOtherMessagesHaveRoom(t *testing.T) {
	table := sum.Make()
	for _, x := range bests(t) {
		all := make([][]rec.Update, 3)
		for k := range x.p.Buffer {
			one := []rec.Update{add(keyOf(k), math.MaxUint64), deletes(keyOf(k)), put(keyOf(k), fullValue())}
			all[0] = append(all[0], one[0])
			all[1] = append(all[1], one[1])
			all[2] = append(all[2], one[k%3])
		}
		for _, updates := range all {
			hasRoom(t, table, x.size, env.Node, nodeText(t, children(x.p.Fanout), updates))
		}
	}
}

// TestMoreHasNoRoom: a leaf of one entry more than Best tells isn't sealed.
func TestMoreHasNoRoom(t *testing.T) {
	table := sum.Make()
	for size := 277; size <= 1024; size++ {
		p, e := Best(size, 3)
		if e != api.OK {
			t.Fatalf("%d: %v", size, e)
		}
		image, _, e := env.Seal(table, size, env.Head{Kind: env.Leaf}, leafText(t, entries(p.Leaf+1)))
		if image != "" || e != api.ErrLong {
			t.Errorf("%d: %v", size, e)
		}
	}
}

// walk is numbers that come one from the other.
type walk struct{ state uint64 }

func (w *walk) below(n int) int {
	w.state = w.state*6364136223846793005 + 1442695040888963407
	return int(w.state >> 33 % uint64(n))
}

// keys: at most so many, rising, of each length.
func (w *walk) keys(most int) []string {
	var l []string
	for range most {
		l = append(l, strings.Repeat(string(rune('a'+w.below(26))), 1+w.below(4))+keyOf(w.below(1000))[4+w.below(13):])
	}
	slices.Sort(l)
	return slices.Compact(l)
}

// TestWhatIsAllowedHasRoom: nodes and leaves of walks, of any plan that is OK with a size.
func TestWhatIsAllowedHasRoom(t *testing.T) {
	table := sum.Make()
	allowed := 0
	for seed := range 6000 {
		w := walk{uint64(seed)}
		size := 277 + w.below(1024-276)
		p := Plan{3 + w.below(9), 3 + w.below(15), 2 + w.below(19)}
		if p.Check(size) != api.OK {
			continue
		}
		allowed++
		l := []node.Child{{Ptr: env.Ptr{Addr: w.below(1 << 31)}}}
		for _, low := range w.keys(p.Fanout - 1) {
			l = append(l, node.Child{Low: low, Ptr: env.Ptr{Gen: uint64(w.below(1 << 30))}})
		}
		var updates []rec.Update
		for _, key := range w.keys(p.Buffer) {
			updates = append(updates, []rec.Update{put(key, fullValue()[w.below(33):]), deletes(key), add(key, 7)}[w.below(3)])
		}
		hasRoom(t, table, size, env.Node, nodeText(t, l, updates))
		var entries []leaf.Entry
		for _, key := range w.keys(p.Leaf) {
			entries = append(entries, leaf.Entry{Key: key, Value: fullValue()[w.below(33):]})
		}
		hasRoom(t, table, size, env.Leaf, leafText(t, entries))
	}
	if allowed < 500 {
		t.Errorf("%d", allowed)
	}
}
