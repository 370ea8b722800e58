package bits

import (
	"math"
	"slices"
	"testing"

	"treenail/api"
)

var (
	counts    = []int{1, 2, 3, 7, 8, 9, 31, 32, 33, 63, 64, 65, 127, 128, 129, 255, 256, 257, 4095, 4096}
	notCounts = []int{0, -1, -2, -8, -64, -4096, 4097, 4098, 4160, 8192, 1 << 16, 1<<16 + 1, 1 << 32, 1<<32 + 1, -1<<32 + 1, math.MinInt, math.MinInt + 1, math.MaxInt - 1, math.MaxInt}
)

// notNumbers: of n, such as there aren't; also such whose last bits alone are one of it.
func notNumbers(n int) []int {
	return []int{
		-1, -2, -8, -63, -64, -65, -128, -n, -n - 1, -4096, -1 << 16, -1 << 32, -1<<32 + n - 1, math.MinInt, math.MinInt + 1, math.MinInt + n - 1, math.MinInt + 64,
		n, n + 1, n + 2, n + 7, n + 8, n + 63, n + 64, n + 65, 4096, 4097, 4096 + n - 1, 8192, 1 << 16, 1<<16 + n - 1, 1 << 32, 1<<32 + n - 1, math.MaxInt - 64, math.MaxInt - 1, math.MaxInt,
	}
}

// alternate: the even numbers below n.
func alternate(n int) []int {
	return slices.DeleteFunc(all(n), func(k int) bool { return k%2 == 1 })
}

// scattered: the numbers below n, each once, but with others between any that are neighbours.
func scattered(n int) []int {
	list, step := all(n), 37 // no count that is tried has 37 as a divisor
	for k := range list {
		list[k] = k * step % n
	}
	return list
}

func refusesNew(t *testing.T, n int) {
	t.Helper()
	if s, e := New(n); s != nil || e != api.ErrArg {
		t.Errorf("New(%d) = %v, %v", n, s, e)
	}
}

// P9.1: New.

func TestNewOfEachCount(t *testing.T) {
	for n := -100; n <= 4300; n++ {
		if n < 1 || n > 4096 {
			refusesNew(t, n)
			continue
		}
		s := newSet(t, n)
		if s.Size() != n || s.Count() != 0 || len(s.List()) != 0 {
			t.Errorf("New(%d): of %d, %d are: %v", n, s.Size(), s.Count(), s.List())
		}
	}
}

func TestNewOfTheLeastAndOfTheGreatestCount(t *testing.T) {
	for _, n := range []int{1, api.MaxSectors} {
		twinOf(n).looks(t, newSet(t, n))
	}
	refusesNew(t, 0)
	refusesNew(t, api.MaxSectors+1)
}

func TestNewRefusesCounts(t *testing.T) {
	for _, n := range notCounts {
		refusesNew(t, n)
	}
}

func TestOfANewSetNoneIs(t *testing.T) {
	for _, n := range counts {
		twinOf(n).looks(t, newSet(t, n))
	}
}

// TestTwoNewSets: P2: they have nothing to do with one another.
func TestTwoNewSets(t *testing.T) {
	for _, n := range counts {
		s, other := newSet(t, n), newSet(t, n)
		for k := range n {
			s.Put(k, true)
		}
		twinOf(n).looks(t, other)
		twinOf(n).looks(t, newSet(t, n))
		twinOf(n, all(n)...).looks(t, s)
	}
}

// A nil set.

func TestANilSet(t *testing.T) {
	var s *Set
	hasNothing(t, s)
	if c := s.Copy(); c != nil {
		t.Errorf("Copy = %v", c)
	}
	hasNothing(t, s)
}

// TestTheZeroSet: nobody is told to make one, but it is a set of no numbers, and so it panics no more than others.
func TestTheZeroSet(t *testing.T) {
	s := new(Set)
	hasNothing(t, s)
	hasNothing(t, s.Copy())
}

// hasNothing: what each call answers of a set that has no numbers.
func hasNothing(t *testing.T, s *Set) {
	t.Helper()
	for _, k := range append(notNumbers(1), 0, 1, 63, 64, 4095) {
		for _, is := range []bool{true, false} {
			if s.Put(k, is) {
				t.Errorf("Put(%d, %v) = true", k, is)
			}
			isNext(t, s, k, is, 0, false)
		}
		if s.Has(k) {
			t.Errorf("Has(%d) = true", k)
		}
	}
	if s.Size() != 0 || s.Count() != 0 || len(s.List()) != 0 {
		t.Errorf("of %d, %d are: %v", s.Size(), s.Count(), s.List())
	}
}

// P9.1: Put and Has.

// TestPutOfEachNumber: into a set with none, twice, and out of it, twice; no other number is touched.
func TestPutOfEachNumber(t *testing.T) {
	for _, n := range counts {
		s, w := both(t, n)
		for k := range n {
			for _, is := range []bool{false, true, true, false, false} {
				w.puts(t, s, k, is)
				touchesNoOther(t, w, s, k)
			}
		}
		w.looks(t, s)
	}
}

// TestPutOfEachNumberOfAFullSet: out of a set with all, twice, and into it, twice; no other number is touched.
func TestPutOfEachNumberOfAFullSet(t *testing.T) {
	for _, n := range counts {
		s, w := fullSet(t, n)
		w.looks(t, s)
		for k := range n {
			for _, is := range []bool{true, false, false, true, true} {
				w.puts(t, s, k, is)
				touchesNoOther(t, w, s, k)
			}
		}
		w.looks(t, s)
	}
}

// touchesNoOther looks at all numbers; of large sets at those around k and around k's last bits, and at the count, as there are too many of them.
func touchesNoOther(t *testing.T, w twin, s *Set, k int) {
	t.Helper()
	if len(w) <= 257 {
		w.looks(t, s)
		return
	}
	for other := range len(w) {
		near := other >= k-65 && other <= k+65
		if (near || other%64 == k%64 || other%256 == k%256) && s.Has(other) != w[other] {
			t.Fatalf("of %d: behind the Put of %d Has(%d) = %v", len(w), k, other, !w[other])
		}
	}
	if count := s.Count(); count > 1 && count < len(w)-1 {
		t.Fatalf("of %d: behind the Put of %d %d are", len(w), k, count)
	}
}

// TestPutOfWhatThereIsNot: false, and nothing is changed, whatever is of the set.
func TestPutOfWhatThereIsNot(t *testing.T) {
	for _, n := range counts {
		for _, of := range [][]int{nil, {0}, {n - 1}, alternate(n), all(n)} {
			s, w := both(t, n, of...)
			for _, k := range notNumbers(n) {
				for _, is := range []bool{true, false} {
					if s.Put(k, is) || s.Has(k) {
						t.Fatalf("of %d: Put(%d, %v) or Has of it is true", n, k, is)
					}
				}
			}
			w.looks(t, s)
		}
	}
}

func TestPutTellsWhetherItWas(t *testing.T) {
	s := newSet(t, 70)
	for i, x := range []struct {
		k       int
		is, was bool
	}{
		{0, true, false}, {64, true, false}, {0, true, true}, {63, true, false}, {64, false, true}, {64, false, false},
		{0, false, true}, {0, true, false}, {69, false, false}, {69, true, false}, {69, true, true}, {70, true, false}, {70, true, false}, {-1, true, false}, {-1, true, false},
	} {
		if was := s.Put(x.k, x.is); was != x.was {
			t.Errorf("%d: Put(%d, %v) = %v", i, x.k, x.is, was)
		}
	}
	twinOf(70, 0, 63, 69).looks(t, s)
}

// P9.1: Size, Count and List.

// TestCountAndListBehindEveryPut: each number is put in twice, and taken out twice, with others of the set meanwhile, in an order that doesn't rise.
func TestCountAndListBehindEveryPut(t *testing.T) {
	for _, n := range counts {
		s, w := both(t, n)
		for _, is := range []bool{true, false} {
			for _, k := range scattered(n) {
				for range 2 {
					w.puts(t, s, k, is)
					tells(t, s, n, w.list())
				}
			}
		}
	}
}

func tells(t *testing.T, s *Set, n int, list []int) {
	t.Helper()
	if s.Size() != n || s.Count() != len(list) || !slices.Equal(s.List(), list) {
		t.Fatalf("of %d, %d are: %v; not of %d, %d: %v", s.Size(), s.Count(), s.List(), n, len(list), list)
	}
}

func TestListRises(t *testing.T) {
	for _, x := range []struct{ put, list []int }{
		{nil, nil}, {[]int{0}, []int{0}}, {[]int{299}, []int{299}}, {[]int{5, 4, 3}, []int{3, 4, 5}},
		{[]int{299, 0, 64, 63, 65, 128, 127, 256, 255, 8, 7}, []int{0, 7, 8, 63, 64, 65, 127, 128, 255, 256, 299}},
		{[]int{64, 64, 0, 64}, []int{0, 64}},
	} {
		s := newSet(t, 300)
		for _, k := range x.put {
			s.Put(k, true)
		}
		tells(t, s, 300, x.list)
	}
}

// TestChangesOfTheListChangeNothing: rule 4: it is new memory, also what lies behind its length.
func TestChangesOfTheListChangeNothing(t *testing.T) {
	s, w := both(t, 300, 7, 63, 64, 290)
	one, other := s.List(), s.List()
	for k := range one {
		one[k] = 1 + k
	}
	clear(one[:cap(one)])
	one = append(one, 4, 4, 4, 4, 4)
	if !slices.Equal(other, []int{7, 63, 64, 290}) || len(one) != 9 {
		t.Errorf("the other list is %v, of %d", other, len(one))
	}
	w.looks(t, s)
}

// TestListOfBeforeStaysAsItWas: a list tells what was, whatever is put afterwards.
func TestListOfBeforeStaysAsItWas(t *testing.T) {
	s, _ := both(t, 130, 5, 129)
	list := s.List()
	s.Put(5, false)
	s.Put(6, true)
	if !slices.Equal(list, []int{5, 129}) {
		t.Errorf("the list of before is %v", list)
	}
}

// P9.1: Copy.

// TestCopyStandsApart: whichever of the two is put to, the other one stays as it was; for each number, that was of it or wasn't.
func TestCopyStandsApart(t *testing.T) {
	for _, n := range counts {
		for _, of := range [][]int{nil, alternate(n), all(n)} {
			s, w := both(t, n, of...)
			c := s.Copy()
			w.looks(t, c)
			for k := range n {
				w.isApart(t, s, c, k)
				w.isApart(t, c, s, k)
			}
			w.looks(t, s)
			w.looks(t, c)
		}
	}
}

// isApart: a number is put to a set and back, and another one with the same doesn't change.
func (w twin) isApart(t *testing.T, s, other *Set, k int) {
	t.Helper()
	s.Put(k, !w[k])
	if s.Has(k) == w[k] || other.Has(k) != w[k] {
		t.Fatalf("of %d: behind a Put of %d, which was %v: %v, and of the other one %v", len(w), k, w[k], s.Has(k), other.Has(k))
	}
	s.Put(k, w[k])
}

// TestCopyAndWhatItIsOfGoTheirWays: both are emptied, or filled, while the other one isn't.
func TestCopyAndWhatItIsOfGoTheirWays(t *testing.T) {
	for _, n := range counts {
		s, w := both(t, n, alternate(n)...)
		c := s.Copy()
		for k := range n {
			s.Put(k, true)
		}
		w.looks(t, c)
		twinOf(n, all(n)...).looks(t, s)
		for k := range n {
			c.Put(k, false)
		}
		twinOf(n).looks(t, c)
		twinOf(n, all(n)...).looks(t, s)
	}
}

// TestCopiesOfCopies: each stays what it was when it was made.
func TestCopiesOfCopies(t *testing.T) {
	s, w := both(t, 130)
	sets, twins := []*Set{s}, []twin{slices.Clone(w)}
	for _, k := range []int{0, 63, 64, 129, 128} {
		s = s.Copy()
		w.puts(t, s, k, true)
		sets, twins = append(sets, s), append(twins, slices.Clone(w))
	}
	for i := range sets {
		twins[i].looks(t, sets[i])
		twins[i].finds(t, sets[i], all(131))
	}
}
