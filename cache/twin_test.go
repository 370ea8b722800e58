package cache

import (
	"math"
	"slices"
	"strconv"
	"testing"

	"treenail/api"
	"treenail/env"
)

// twin is a cache as the chapter says it, kept otherwise than the program does: what is kept stands in one list, what was used last first.
type twin struct {
	most          int
	kept          []block
	found, missed int
}

type block struct {
	p       env.Ptr
	kind    env.Kind
	payload string
}

func (w *twin) at(addr int) int {
	return slices.IndexFunc(w.kept, func(b block) bool { return b.p.Addr == addr })
}

func (w *twin) get(p env.Ptr) (env.Kind, string, bool) {
	at := w.at(p.Addr)
	if at < 0 || w.kept[at].p.Gen != p.Gen || w.kept[at].p.Sum != p.Sum {
		w.missed++
		return 0, "", false
	}
	w.found++
	b := w.kept[at]
	w.drop(p.Addr)
	w.kept = slices.Insert(w.kept, 0, b)
	return b.kind, b.payload, true
}

func (w *twin) put(b block) {
	w.drop(b.p.Addr)
	if len(w.kept) == w.most {
		w.kept = w.kept[:w.most-1]
	}
	w.kept = slices.Insert(w.kept, 0, b)
}

func (w *twin) drop(addr int) {
	if at := w.at(addr); at >= 0 {
		w.kept = slices.Delete(w.kept, at, at+1)
	}
}

func (w *twin) list() []int {
	var addrs []int
	for _, b := range w.kept {
		addrs = append(addrs, b.p.Addr)
	}
	return addrs
}

// The calls of a cache that may change it.
const (
	get = iota
	put
	drop
)

// call is one of these; of get what is known of the block alone counts, of drop its address.
type call struct {
	kind int
	block
}

func getOf(p env.Ptr) call { return call{get, block{p: p}} }

func putOf(p env.Ptr, k env.Kind, payload string) call { return call{put, block{p, k, payload}} }

func dropOf(addr int) call { return call{drop, block{p: env.Ptr{Addr: addr}}} }

// does: the cache's answer to a call is the twin's, and so are its List and its Counts behind it.
func (w *twin) does(t *testing.T, c *Cache, x call) {
	t.Helper()
	switch x.kind {
	case get:
		k, s, ok := c.Get(x.p)
		if wantKind, want, found := w.get(x.p); k != wantKind || s != want || ok != found {
			t.Fatalf("of %d slots: Get(%v) = %d, %q, %v; not %d, %q, %v", w.most, x.p, k, s, ok, wantKind, want, found)
		}
	case put:
		c.Put(x.p, x.block.kind, x.payload)
		w.put(x.block)
	case drop:
		c.Drop(x.p.Addr)
		w.drop(x.p.Addr)
	}
	w.looks(t, c)
}

func (w *twin) doesAll(t *testing.T, c *Cache, calls ...call) {
	t.Helper()
	for _, x := range calls {
		w.does(t, c, x)
	}
}

// looks: the cache's List and Counts are the twin's.
func (w *twin) looks(t *testing.T, c *Cache) {
	t.Helper()
	if list := c.List(); !slices.Equal(list, w.list()) {
		t.Fatalf("of %d slots: List() = %v, not %v", w.most, list, w.list())
	}
	if found, missed := c.Counts(); found != w.found || missed != w.missed {
		t.Fatalf("of %d slots: Counts() = %d, %d; not %d, %d", w.most, found, missed, w.found, w.missed)
	}
}

// hasAll: a Get of each block that is kept finds it. What was used longest ago is asked for first, so that the order is the same behind it.
func (w *twin) hasAll(t *testing.T, c *Cache) {
	t.Helper()
	before := w.list()
	for _, b := range slices.Backward(slices.Clone(w.kept)) {
		k, s, ok := c.Get(b.p)
		w.get(b.p)
		if k != b.kind || s != b.payload || !ok {
			t.Fatalf("of %d slots: Get(%v) = %d, %q, %v; not %d, %q", w.most, b.p, k, s, ok, b.kind, b.payload)
		}
	}
	w.looks(t, c)
	if !slices.Equal(w.list(), before) {
		t.Fatalf("the order was %v and is %v", before, w.list())
	}
}

func newCache(t *testing.T, slots int) *Cache {
	t.Helper()
	c, e := New(slots)
	if c == nil || e != api.OK {
		t.Fatalf("New(%d): %v, %v", slots, c, e)
	}
	return c
}

// both: a cache and its twin, behind some calls.
func both(t *testing.T, slots int, calls ...call) (*Cache, *twin) {
	t.Helper()
	c, w := newCache(t, slots), &twin{most: slots}
	w.looks(t, c)
	w.doesAll(t, c, calls...)
	return c, w
}

// full: both, behind a Put of each address from 0 on, till all slots are in use.
func full(t *testing.T, slots int, calls ...call) (*Cache, *twin) {
	t.Helper()
	c, w := both(t, slots)
	for addr := range slots {
		b := block{known(addr), env.Leaf, strconv.Itoa(addr)}
		c.Put(b.p, b.kind, b.payload)
		w.put(b)
	}
	w.looks(t, c)
	w.doesAll(t, c, calls...)
	return c, w
}

func known(addr int) env.Ptr { return env.Ptr{Addr: addr, Gen: 5, Sum: 9} }

// stepper: numbers below others, as if by chance, but always the same ones.
func stepper() func(below int) int {
	state := uint64(11)
	return func(below int) int {
		state = state*6364136223846793005 + 1442695040888963407
		return int(state >> 33 % uint64(below))
	}
}

// TestEveryWayOfSmallCaches: all sequences of so many calls, each of them on a cache of its own, from an empty one and from a full one; the cache is looked at behind every call.
func TestEveryWayOfSmallCaches(t *testing.T) {
	for _, x := range []struct{ slots, addrs, gens, calls int }{{1, 2, 2, 4}, {2, 3, 2, 4}, {2, 3, 1, 5}, {3, 4, 1, 4}, {3, 5, 2, 3}, {4, 5, 1, 4}} {
		kinds := everyCall(x.addrs, x.gens)
		count := 1
		for range x.calls {
			count *= len(kinds)
		}
		for way := range count {
			for _, begin := range []func(*testing.T, int, ...call) (*Cache, *twin){both, full} {
				c, w := begin(t, x.slots)
				for rest, left := way, x.calls; left > 0; rest, left = rest/len(kinds), left-1 {
					next := kinds[rest%len(kinds)]
					next.payload = strconv.Itoa(left) // so that no two Puts are of the same
					w.does(t, c, next)
				}
				w.hasAll(t, c)
			}
		}
	}
}

// everyCall: of so many addresses and generations.
func everyCall(addrs, gens int) []call {
	var all []call
	for addr := range addrs {
		for gen := range gens {
			p := env.Ptr{Addr: addr, Gen: 5 + uint64(gen), Sum: 9}
			all = append(all, getOf(p), putOf(p, env.Node, ""))
		}
		all = append(all, dropOf(addr))
	}
	return all
}

// TestBesideATwin: walks through calls of all kinds, of addresses near one another and far apart; the cache is looked at behind every call.
func TestBesideATwin(t *testing.T) {
	for _, slots := range []int{1, 2, 3, 4, 5, 7, 8, 9, 16, 31, 64, 100, 300} {
		for _, addr := range []func(k int) int{
			func(k int) int { return k },
			func(k int) int { return -k },
			func(k int) int { return k<<32 - 1<<34 },
			func(k int) int { return math.MinInt + k*k },
			func(k int) int { return math.MaxInt - k<<8 },
		} {
			c, w := both(t, slots)
			walk(t, c, w, addr, 1500)
		}
	}
}

// TestBesideATwinOfAllSlots: a walk of the largest cache that may be, which is full from the beginning on.
func TestBesideATwinOfAllSlots(t *testing.T) {
	c, w := full(t, api.MaxSectors)
	w.hasAll(t, c)
	walk(t, c, w, func(k int) int { return k }, 1500)
}

func walk(t *testing.T, c *Cache, w *twin, addr func(k int) int, calls int) {
	t.Helper()
	next := stepper()
	for k := range calls {
		w.does(t, c, anyCall(next, w, addr, strconv.Itoa(k)))
		if next(100) == 0 {
			w.hasAll(t, c)
		}
	}
	w.hasAll(t, c)
}

// anyCall: what is kept is asked for more often than it would be by chance, also by another generation or check; there are some more addresses than slots.
func anyCall(next func(below int) int, w *twin, addr func(k int) int, payload string) call {
	p := env.Ptr{Addr: addr(next(w.most + w.most/4 + 3)), Gen: uint64(next(2)), Sum: uint32(next(2))}
	if len(w.kept) > 0 && next(2) == 0 {
		p = w.kept[next(len(w.kept))].p
		if next(4) == 0 {
			p.Gen += uint64(next(2))
			p.Sum ^= uint32(next(2))
		}
	}
	switch k := next(20); {
	case k < 9:
		return getOf(p)
	case k < 18:
		return putOf(p, env.Kind(next(256)), payload)
	default:
		return dropOf(p.Addr)
	}
}

// TestTheHeapHasWhatTheMapHas: behind each call of a walk; and nothing is held where the heap has been larger, so that what isn't kept can go.
func TestTheHeapHasWhatTheMapHas(t *testing.T) {
	for _, slots := range []int{1, 2, 5, 40} {
		next := stepper()
		c, w := both(t, slots)
		for k := range 3000 {
			w.does(t, c, anyCall(next, w, func(k int) int { return k }, strconv.Itoa(k)))
			isOneThing(t, c)
		}
	}
}

func isOneThing(t *testing.T, c *Cache) {
	t.Helper()
	if len(c.slots) != len(c.order) {
		t.Fatalf("%d in the map, %d in the heap", len(c.slots), len(c.order))
	}
	for place, s := range c.order {
		if s.place != place || c.slots[s.known.Addr] != s {
			t.Fatalf("what stands at %d says %d, and is of %d", place, s.place, s.known.Addr)
		}
	}
	for _, s := range c.order[len(c.order):cap(c.order)] {
		if s != nil {
			t.Fatalf("%d is held, and isn't kept", s.known.Addr)
		}
	}
}
