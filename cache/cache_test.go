package cache

import (
	"math"
	"slices"
	"strconv"
	"strings"
	"testing"

	"treenail/api"
	"treenail/env"
)

// addrs: such as blocks have, and such as no block has: what is known of a block may say any.
var addrs = []int{0, 1, 2, 7, 4095, 4096, math.MaxInt32, 1 << 32, 1<<32 + 1, -1, -2, -1 << 32, math.MinInt, math.MinInt + 1, math.MaxInt - 1, math.MaxInt}

func refusesNew(t *testing.T, slots int) {
	t.Helper()
	if c, e := New(slots); c != nil || e != api.ErrArg {
		t.Errorf("New(%d) = %v, %v", slots, c, e)
	}
}

// P11.1: New.

func TestNewOfEachCount(t *testing.T) {
	for slots := -100; slots <= 4300; slots++ {
		if slots < 1 || slots > 4096 {
			refusesNew(t, slots)
			continue
		}
		c, w := both(t, slots) // which looks at List and Counts
		w.does(t, c, getOf(env.Ptr{}))
	}
}

func TestNewRefusesCounts(t *testing.T) {
	for _, slots := range []int{
		0, -1, -2, -4095, -4096, -4097, 4097, 4098, 8192, 1 << 16, 1<<16 + 1, 1 << 31, 1 << 32, 1<<32 + 1, 1<<32 + 4096, -1 << 32, -1<<32 + 1, math.MinInt, math.MinInt + 1, math.MinInt + 4096, math.MaxInt - 1, math.MaxInt,
	} {
		refusesNew(t, slots)
	}
}

// TestOfEachCountSoManyAreKept: so many are kept, and with one more the one that was put first isn't any more.
func TestOfEachCountSoManyAreKept(t *testing.T) {
	for _, slots := range []int{1, 2, 3, 4, 15, 16, 17, 127, 128, 255, 256, 257, 1023, 4095, 4096} {
		c, w := full(t, slots)
		w.hasAll(t, c)
		if list := c.List(); len(list) != slots {
			t.Fatalf("of %d slots %d are in use", slots, len(list))
		}
		w.doesAll(t, c, putOf(known(slots), env.Node, "one more"), getOf(known(0)))
		w.hasAll(t, c)
	}
}

// A nil cache.

func TestANilCache(t *testing.T) {
	var c *Cache
	for range 2 { // nothing is kept by the first calls
		for _, addr := range addrs {
			c.Put(known(addr), env.Leaf, "payload")
			if k, s, ok := c.Get(known(addr)); k != 0 || s != "" || ok {
				t.Errorf("Get of %d = %d, %q, %v", addr, k, s, ok)
			}
			c.Drop(addr)
		}
		if list := c.List(); len(list) != 0 {
			t.Errorf("List() = %v", list)
		}
		if found, missed := c.Counts(); found != 0 || missed != 0 {
			t.Errorf("Counts() = %d, %d", found, missed)
		}
	}
}

// TestTheZeroCache: nobody is told to make one, but it is a cache of no slots, and so it panics no more than others.
func TestTheZeroCache(t *testing.T) {
	c, w := new(Cache), &twin{}
	for _, addr := range addrs {
		c.Put(known(addr), env.Leaf, "payload")
		w.doesAll(t, c, getOf(known(addr)), dropOf(addr))
	}
}

// TestTwoCaches: P2: they have nothing to do with one another.
func TestTwoCaches(t *testing.T) {
	for _, slots := range []int{1, 2, 4} {
		c, w := full(t, slots)
		other, otherTwin := both(t, slots)
		otherTwin.doesAll(t, other, getOf(known(0)), dropOf(0), putOf(known(0), env.Node, "another"), putOf(known(9), env.Node, "nine"))
		w.hasAll(t, c)
		w.doesAll(t, c, dropOf(9), dropOf(0), putOf(known(9), env.Leaf, "its own"))
		otherTwin.hasAll(t, other)
		third, thirdTwin := both(t, slots)
		thirdTwin.does(t, third, getOf(known(9)))
	}
}

// P11.1: Get and Put.

// TestGetOfJustThat: of another address, generation or check, each alone and by one bit, nothing is found, and what is kept stays.
func TestGetOfJustThat(t *testing.T) {
	for _, addr := range addrs {
		for _, p := range []env.Ptr{{Addr: addr}, {Addr: addr, Gen: 5, Sum: 9}, {Addr: addr, Gen: math.MaxUint64, Sum: math.MaxUint32}} {
			c, w := both(t, 2, putOf(p, env.Leaf, "payload"), getOf(p))
			for _, q := range othersByOneBit(p) {
				w.does(t, c, getOf(q))
			}
			w.doesAll(t, c, getOf(env.Ptr{Addr: addr, Gen: p.Gen + 1, Sum: p.Sum}), getOf(env.Ptr{Addr: addr, Gen: p.Gen - 1, Sum: p.Sum}))
			if k, s, ok := c.Get(p); k != env.Leaf || s != "payload" || !ok {
				t.Fatalf("Get(%v) = %d, %q, %v", p, k, s, ok)
			}
			if found, missed := c.Counts(); found != 2 || missed != 162 {
				t.Fatalf("of %v %d are found, %d aren't", p, found, missed)
			}
		}
	}
}

func othersByOneBit(p env.Ptr) []env.Ptr {
	var others []env.Ptr
	for bit := range 64 {
		others = append(others, env.Ptr{Addr: p.Addr ^ 1<<bit, Gen: p.Gen, Sum: p.Sum}, env.Ptr{Addr: p.Addr, Gen: p.Gen ^ 1<<bit, Sum: p.Sum})
	}
	for bit := range 32 {
		others = append(others, env.Ptr{Addr: p.Addr, Gen: p.Gen, Sum: p.Sum ^ 1<<bit})
	}
	return others
}

// TestAddressesByOneBit: each of them has a slot of its own.
func TestAddressesByOneBit(t *testing.T) {
	c, w := both(t, 100)
	w.does(t, c, putOf(known(7), env.Leaf, "7"))
	for bit := range 64 {
		w.does(t, c, putOf(known(7^1<<bit), env.Leaf, strconv.Itoa(bit)))
	}
	w.hasAll(t, c)
	if list := c.List(); len(list) != 65 {
		t.Errorf("%d are kept", len(list))
	}
}

// TestTheKindAndThePayloadOfThePut: each kind, also such as there aren't, and payloads of many kinds, the empty one, too.
func TestTheKindAndThePayloadOfThePut(t *testing.T) {
	for kind := range 256 {
		for _, payload := range []string{"", "\x00", "payload", "\xff\xfe\x80", strings.Repeat("\x00", 1000), strings.Repeat("long", 10000)} {
			c := newCache(t, 1)
			c.Put(known(3), env.Kind(kind), payload)
			for range 2 {
				if k, s, ok := c.Get(known(3)); k != env.Kind(kind) || s != payload || !ok {
					t.Fatalf("of %d, %q: Get is %d, %q, %v", kind, payload, k, s, ok)
				}
			}
		}
	}
}

// TestWhatWasPutLastOfAnAddressIsKept: by the same, by an elder and by a newer generation, by another check; what was put before isn't found any more.
func TestWhatWasPutLastOfAnAddressIsKept(t *testing.T) {
	all := []env.Ptr{{Addr: 4, Gen: 5, Sum: 9}, {Addr: 4, Gen: 4, Sum: 9}, {Addr: 4, Gen: 6, Sum: 9}, {Addr: 4, Gen: 5, Sum: 8}, {Addr: 4}}
	for _, first := range all {
		for _, last := range all {
			for _, payload := range []string{"", "another"} {
				c, w := both(t, 3, putOf(first, env.Leaf, "payload"), putOf(known(8), env.Node, "other"), putOf(last, env.Node, payload))
				if k, s, ok := c.Get(last); k != env.Node || s != payload || !ok {
					t.Fatalf("behind %v, %v: %d, %q, %v", first, last, k, s, ok)
				}
				if _, _, ok := c.Get(first); ok != (first == last) {
					t.Fatalf("behind %v, %v: is the first one found? %v", first, last, ok)
				}
				if list := c.List(); !slices.Equal(list, []int{4, 8}) {
					t.Fatalf("behind %v, %v: List() = %v", first, last, list)
				}
				w.get(last)
				w.get(first)
				w.hasAll(t, c)
			}
		}
	}
}

// TestPutOfAKeptAddressTakesNoOtherSlot: wherever in the order it is, and however often, all others are kept.
func TestPutOfAKeptAddressTakesNoOtherSlot(t *testing.T) {
	for slots := 1; slots <= 9; slots++ {
		for addr := range slots {
			for _, gen := range []uint64{5, 4, 6} {
				c, w := full(t, slots)
				for _, payload := range []string{"once", "", "thrice"} {
					w.does(t, c, putOf(env.Ptr{Addr: addr, Gen: gen, Sum: 9}, env.Node, payload))
				}
				if list := c.List(); len(list) != slots || list[0] != addr {
					t.Fatalf("of %d slots, behind Puts of %d: List() = %v", slots, addr, list)
				}
				w.hasAll(t, c)
			}
		}
	}
}

// isKept: these addresses alone, what was used last first.
func isKept(t *testing.T, c *Cache, want ...int) {
	t.Helper()
	if list := c.List(); !slices.Equal(list, want) {
		t.Fatalf("List() = %v, not %v", list, want)
	}
}

func TestTheExample(t *testing.T) {
	c, w := both(t, 2, putOf(known(1), env.Leaf, "1"), putOf(known(2), env.Leaf, "2"), getOf(known(1)), putOf(known(3), env.Leaf, "3"))
	isKept(t, c, 3, 1)
	if _, _, ok := c.Get(known(2)); ok {
		t.Error("2 is kept")
	}
	w.get(known(2))
	w.hasAll(t, c)
}

// TestWhatWasUsedLongestAgoGoes: behind each kind of call on a full cache, which one goes then.
func TestWhatWasUsedLongestAgoGoes(t *testing.T) {
	elder, newer, garbled := env.Ptr{Addr: 0, Gen: 4, Sum: 9}, env.Ptr{Addr: 0, Gen: 6, Sum: 9}, env.Ptr{Addr: 0, Gen: 5, Sum: 8}
	for _, x := range []struct {
		name  string
		calls []call
		want  []int
	}{
		{"nothing", nil, []int{9, 3, 2, 1}},
		{"a Get that found", []call{getOf(known(0))}, []int{9, 0, 3, 2}},
		{"two Gets that found", []call{getOf(known(1)), getOf(known(0))}, []int{9, 0, 1, 3}},
		{"a Get of what was used last", []call{getOf(known(3))}, []int{9, 3, 2, 1}},
		{"Gets of all", []call{getOf(known(3)), getOf(known(2)), getOf(known(1)), getOf(known(0))}, []int{9, 0, 1, 2}},
		{"a Get of an elder generation", []call{getOf(elder)}, []int{9, 3, 2, 1}},
		{"a Get of a newer generation", []call{getOf(newer)}, []int{9, 3, 2, 1}},
		{"a Get of another check", []call{getOf(garbled)}, []int{9, 3, 2, 1}},
		{"a Get of what isn't kept", []call{getOf(known(7))}, []int{9, 3, 2, 1}},
		{"a Put of a kept one", []call{putOf(known(0), env.Node, "")}, []int{9, 0, 3, 2}},
		{"a Put of a kept one as another generation", []call{putOf(newer, env.Node, "")}, []int{9, 0, 3, 2}},
		{"a Put of another one", []call{putOf(known(7), env.Node, "")}, []int{9, 7, 3, 2}},
		{"a Put of another one, and a Get of what went", []call{putOf(known(7), env.Node, ""), getOf(known(0))}, []int{9, 7, 3, 2}},
		{"a Drop of the one that would go", []call{dropOf(0)}, []int{9, 3, 2, 1}},
		{"a Drop of one between", []call{dropOf(2)}, []int{9, 3, 1, 0}},
		{"a Drop of the last one", []call{dropOf(3)}, []int{9, 2, 1, 0}},
		{"a Drop of what isn't kept", []call{dropOf(7)}, []int{9, 3, 2, 1}},
		{"two Drops", []call{dropOf(3), dropOf(1)}, []int{9, 2, 0}},
		{"a Drop and a Put of it", []call{dropOf(0), putOf(known(0), env.Leaf, "")}, []int{9, 0, 3, 2}},
		{"a Drop, and Gets", []call{dropOf(1), getOf(known(0)), getOf(known(1)), putOf(known(8), env.Leaf, "")}, []int{9, 8, 0, 3}},
	} {
		t.Run(x.name, func(t *testing.T) {
			c, w := full(t, 4, x.calls...)
			w.does(t, c, putOf(known(9), env.Node, "nine"))
			isKept(t, c, x.want...)
			w.hasAll(t, c)
		})
	}
}

// TestOneSlot: what was put last alone is kept.
func TestOneSlot(t *testing.T) {
	c, w := both(t, 1, dropOf(0), getOf(known(0)), putOf(known(0), env.Leaf, "zero"))
	isKept(t, c, 0)
	w.doesAll(t, c, getOf(known(0)), getOf(known(1)), putOf(known(0), env.Leaf, "nought"), getOf(known(0)), putOf(known(1), env.Node, ""))
	isKept(t, c, 1)
	w.doesAll(t, c, getOf(known(0)), getOf(known(1)), dropOf(0))
	isKept(t, c, 1)
	w.does(t, c, dropOf(1))
	isKept(t, c)
	w.doesAll(t, c, getOf(known(1)), putOf(known(0), env.Leaf, "again"), getOf(known(0)))
	isKept(t, c, 0)
}

// P11.1: Drop.

// TestDrop: of each place in the order; it isn't found any more, all others are, and another one takes its slot while nothing goes.
func TestDrop(t *testing.T) {
	for slots := 1; slots <= 9; slots++ {
		for addr := range slots {
			c, w := full(t, slots)
			w.doesAll(t, c, dropOf(addr), getOf(known(addr)), dropOf(addr))
			w.hasAll(t, c)
			w.does(t, c, putOf(known(slots), env.Node, "another"))
			w.hasAll(t, c)
			if list := c.List(); len(list) != slots {
				t.Fatalf("of %d slots, behind a Drop of %d and a Put: List() = %v", slots, addr, list)
			}
			w.doesAll(t, c, putOf(known(addr), env.Node, "again"), getOf(known(addr)))
			w.hasAll(t, c)
		}
	}
}

// TestDropOfWhateverGeneration: what is kept of the address is no more, of whichever generation it was put.
func TestDropOfWhateverGeneration(t *testing.T) {
	for _, addr := range addrs {
		for _, gen := range []uint64{0, 1, math.MaxUint64} {
			p := env.Ptr{Addr: addr, Gen: gen, Sum: 9}
			c, w := both(t, 2, putOf(p, env.Leaf, "payload"), dropOf(addr), getOf(p))
			isKept(t, c)
			w.does(t, c, putOf(p, env.Node, ""))
			isKept(t, c, addr)
		}
	}
}

// TestDropOfWhatIsNotKept: nothing is changed, of an empty cache, and of one all or some of whose slots are in use.
func TestDropOfWhatIsNotKept(t *testing.T) {
	for _, slots := range []int{1, 2, 5} {
		for kept := range slots + 1 {
			c, w := both(t, slots)
			for addr := range kept {
				w.does(t, c, putOf(known(addr), env.Leaf, "payload"))
			}
			for _, addr := range append([]int{slots, slots + 1, 1<<32 + slots - 1, -1 << 32, -slots - 1}, addrs...) {
				if addr < 0 || addr >= kept {
					w.does(t, c, dropOf(addr))
				}
			}
			w.hasAll(t, c)
		}
	}
}

// P11.2: List and Counts.

// TestListOfManyAddresses: the one that was used last first, and not by their size.
func TestListOfManyAddresses(t *testing.T) {
	c, w := both(t, len(addrs))
	for _, addr := range addrs {
		w.does(t, c, putOf(known(addr), env.Leaf, "payload"))
	}
	want := slices.Clone(addrs)
	slices.Reverse(want)
	isKept(t, c, want...)
	for _, addr := range want {
		w.does(t, c, getOf(known(addr)))
	}
	isKept(t, c, addrs...)
}

// TestWhatListAnswersIsNewMemory: rule 4: whoever changes it, or what lies behind it, changes no other answer, and nothing that is kept.
func TestWhatListAnswersIsNewMemory(t *testing.T) {
	c, w := full(t, 5)
	one, other := c.List(), c.List()
	for k := range one {
		one[k] = 99
	}
	_ = append(one[:2], 77, 77, 77, 77)
	if want := []int{4, 3, 2, 1, 0}; !slices.Equal(other, want) {
		t.Errorf("the other answer is %v", other)
	}
	w.hasAll(t, c)
}

func TestListAndCountsChangeNothing(t *testing.T) {
	c, w := full(t, 5, getOf(known(2)), getOf(known(7)), putOf(known(1), env.Node, "one"))
	for range 3 {
		isKept(t, c, 1, 2, 4, 3, 0)
		if found, missed := c.Counts(); found != 1 || missed != 1 {
			t.Fatalf("Counts() = %d, %d", found, missed)
		}
	}
	w.doesAll(t, c, putOf(known(8), env.Leaf, "eight"))
	isKept(t, c, 8, 1, 2, 4, 3)
	w.hasAll(t, c)
}

// TestCounts: Gets alone are counted, each by what it told; neither a Put nor a Drop nor what goes makes a difference.
func TestCounts(t *testing.T) {
	c := newCache(t, 2)
	count := func(found, missed int) {
		t.Helper()
		if f, m := c.Counts(); f != found || m != missed {
			t.Fatalf("Counts() = %d, %d; not %d, %d", f, m, found, missed)
		}
	}
	count(0, 0)
	c.Get(known(1))
	count(0, 1)
	c.Put(known(1), env.Leaf, "")
	count(0, 1)
	c.Get(known(1))
	count(1, 1)
	c.Get(env.Ptr{Addr: 1, Gen: 6, Sum: 9})
	c.Get(env.Ptr{Addr: 1, Gen: 5, Sum: 8})
	count(1, 3)
	c.Put(known(1), env.Node, "again")
	c.Put(known(2), env.Node, "")
	c.Put(known(3), env.Node, "")
	count(1, 3)
	c.Get(known(1))
	count(1, 4)
	c.Drop(3)
	c.Drop(3)
	c.Drop(7)
	count(1, 4)
	c.Get(known(3))
	c.Get(known(2))
	count(2, 5)
}

// TestManyUses: so that no number of them is kept in few bits.
func TestManyUses(t *testing.T) {
	c, w := both(t, 2, putOf(known(0), env.Leaf, "0"), putOf(known(1), env.Leaf, "1"))
	for range 35000 {
		w.doesAll(t, c, getOf(known(0)), getOf(known(7)), getOf(known(1)))
	}
	w.doesAll(t, c, getOf(known(0)), putOf(known(2), env.Leaf, "2"))
	isKept(t, c, 2, 0)
	if found, missed := c.Counts(); found != 70001 || missed != 35000 {
		t.Errorf("Counts() = %d, %d", found, missed)
	}
}
