package plan

import (
	"fmt"
	"math"
	"slices"
	"strings"
	"testing"

	"treenail/api"
	"treenail/buf"
	"treenail/env"
	"treenail/leaf"
	"treenail/node"
	"treenail/rec"
)

const (
	least    = math.MinInt
	greatest = math.MaxInt
)

// keyOf: as many bytes as a key may have; rising.
func keyOf(k int) string { return fmt.Sprintf("%016d", k) }

func put(key, value string) rec.Update { return rec.Update{Kind: rec.Put, Key: key, Value: value} }

func deletes(key string) rec.Update { return rec.Update{Kind: rec.Delete, Key: key} }

func add(key string, delta uint64) rec.Update {
	return rec.Update{Kind: rec.Add, Key: key, Delta: delta}
}

// fullValue: as many bytes as a value may have.
func fullValue() string { return strings.Repeat("v", 32) }

// children: so many, each Low but the first one's as long as can be.
func children(count int) []node.Child {
	var l []node.Child
	for k := range count {
		l = append(l, node.Child{Low: keyOf(k), Ptr: env.Ptr{Addr: math.MaxInt32, Gen: math.MaxUint64, Sum: math.MaxUint32}})
	}
	l[0].Low = ""
	return l
}

// puts: so many, each as long as can be.
func puts(count int) []rec.Update {
	var l []rec.Update
	for k := range count {
		l = append(l, put(keyOf(k), fullValue()))
	}
	return l
}

// entries: so many, each as long as can be.
func entries(count int) []leaf.Entry {
	var l []leaf.Entry
	for k := range count {
		l = append(l, leaf.Entry{Key: keyOf(k), Value: fullValue()})
	}
	return l
}

// nodeText: laid by layers 15 and 17.
func nodeText(t *testing.T, children []node.Child, updates []rec.Update) string {
	t.Helper()
	b, e := buf.Of(updates...)
	if e != api.OK {
		t.Fatalf("buf.Of(%v): %v", updates, e)
	}
	s, e := node.Node{Children: children, Buffer: b}.Text()
	if e != api.OK {
		t.Fatalf("Text of %v, %v: %v", children, updates, e)
	}
	return s
}

// leafText: laid by layer 16.
func leafText(t *testing.T, entries []leaf.Entry) string {
	t.Helper()
	f, e := leaf.Of(entries...)
	if e != api.OK {
		t.Fatalf("leaf.Of(%v): %v", entries, e)
	}
	s, e := f.Text()
	if e != api.OK {
		t.Fatalf("Text of %v: %v", entries, e)
	}
	return s
}

// twin is a second reckoning: how many bytes full nodes and full leaves have is told by laying them, and which plans may be by listing all.
type twin struct {
	nodes  [17][65]int // by Fanout and Buffer
	leaves [65]int     // by Leaf
	may    map[Plan]bool
	all    [17][]Plan // by Fanout
}

func newTwin(t *testing.T) *twin {
	t.Helper()
	w := &twin{may: map[Plan]bool{}}
	for fanout := 3; fanout <= 16; fanout++ {
		for buffer := fanout; buffer <= 64; buffer++ {
			w.nodes[fanout][buffer] = len(nodeText(t, children(fanout), puts(buffer))) + 16 // the first Low counts, too
			for length := 2; length <= 64; length++ {
				p := Plan{fanout, buffer, length}
				w.may[p] = true
				w.all[fanout] = append(w.all[fanout], p)
			}
		}
	}
	for length := 2; length <= 64; length++ {
		w.leaves[length] = len(leafText(t, entries(length)))
	}
	return w
}

func (w *twin) nodeBytes(p Plan) int {
	if !w.may[p] {
		return 0
	}
	return w.nodes[p.Fanout][p.Buffer]
}

func (w *twin) leafBytes(p Plan) int {
	if !w.may[p] {
		return 0
	}
	return w.leaves[p.Leaf]
}

// least: of a plan's messages, handed round to the children, each one gets so many.
func (w *twin) least(p Plan) int {
	rounds := 0
	for left := p.Buffer; w.may[p] && left >= p.Fanout; left -= p.Fanout {
		rounds++
	}
	return rounds
}

// fits: of a plan that may be.
func (w *twin) fits(p Plan, size int) bool {
	return w.nodes[p.Fanout][p.Buffer]+24 <= size && w.leaves[p.Leaf]+24 <= size
}

func (w *twin) check(p Plan, size int) api.Errno {
	switch {
	case size < 128 || size > 1024 || !w.may[p]:
		return api.ErrArg
	case w.fits(p, size):
		return api.OK
	}
	return api.ErrLong
}

func (w *twin) best(size, fanout int) (Plan, api.Errno) {
	if size < 128 || size > 1024 || fanout < 3 || fanout > 16 {
		return Plan{}, api.ErrArg
	}
	var best Plan
	for _, p := range w.all[fanout] {
		if w.fits(p, size) && (p.Buffer > best.Buffer || p.Buffer == best.Buffer && p.Leaf > best.Leaf) {
			best = p
		}
	}
	if best == (Plan{}) {
		return best, api.ErrLong
	}
	return best, api.OK
}

// wide: ints that no plan and no size is of; also such whose lower 32 bits, or the number without its sign, might be.
func wide() []int {
	return []int{least, least + 1, least + 4, least + 128, -1 << 32, 4 - 1<<32, -1 << 31, -1025, -1024, -320, -128, -65, -64, -16, -4, -3, -2, -1,
		1<<31 - 1, 1 << 31, 1<<31 + 4, 1<<32 - 1, 1 << 32, 1<<32 + 2, 1<<32 + 4, 1<<32 + 16, 1<<32 + 320, 1<<32 + 1024, greatest/51 + 1, greatest/33 + 1, 1 << 62, greatest - 1, greatest}
}

// plansOf: all of these Fanouts, Buffers and Leafs together; also of the Buffers that are as great as the Fanout, one less and one more.
func plansOf(fanouts, buffers, leaves []int) []Plan {
	var l []Plan
	for _, fanout := range fanouts {
		about := append(slices.Clone(buffers), fanout-1, fanout, fanout+1)
		slices.Sort(about)
		for _, buffer := range slices.Compact(about) {
			for _, length := range leaves {
				l = append(l, Plan{fanout, buffer, length})
			}
		}
	}
	return l
}

// limitPlans: at the limits of each place, on both sides of them, and at the ends of the ints.
func limitPlans() []Plan {
	fanouts := []int{least, -3, -1, 0, 1, 2, 3, 4, 15, 16, 17, greatest}
	buffers := []int{least, -3, -1, 0, 2, 17, 63, 64, 65, greatest}
	leaves := []int{least, -2, -1, 0, 1, 2, 3, 20, 63, 64, 65, greatest}
	return plansOf(fanouts, buffers, leaves)
}

// widePlans: these, and more beyond the limits.
func widePlans() []Plan {
	fanouts := append(wide(), 0, 1, 2, 3, 4, 8, 15, 16, 17, 18, 64)
	buffers := append(wide(), 0, 1, 2, 3, 17, 63, 64, 65, 66, 128)
	leaves := append(wide(), 0, 1, 2, 3, 20, 63, 64, 65, 66, 128)
	return plansOf(fanouts, buffers, leaves)
}
