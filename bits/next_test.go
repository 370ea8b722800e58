package bits

import "testing"

// froms: where Next is asked from: each number, and the negative ones and those beyond.
func froms(n int) []int { return append(all(n), notNumbers(n)...) }

// asksAll: is a set of so many small enough to be asked from each number, with one at each place?
func asksAll(n int) bool { return n <= 257 }

// around: of larger sets, those at both ends, and those around a place and around the next places that divide by 64.
func around(n, place int) []int {
	list := []int{-1, 0, 1, 63, 64, 65, n - 65, n - 64, n - 2, n - 1, n, n + 1}
	for _, at := range []int{place, place / 64 * 64, place/64*64 + 64} {
		list = append(list, at-65, at-64, at-2, at-1, at, at+1, at+2, at+63, at+64)
	}
	return list
}

// P9.2

func TestNextOfTheExample(t *testing.T) {
	s, w := both(t, 70, 0, 64)
	isNext(t, s, 1, true, 64, true)
	isNext(t, s, 0, true, 0, true)
	isNext(t, s, 64, true, 64, true)
	isNext(t, s, 65, true, 0, false)
	isNext(t, s, 0, false, 1, true)
	isNext(t, s, 64, false, 65, true)
	isNext(t, s, 69, false, 69, true)
	isNext(t, s, 70, false, 0, false)
	w.looks(t, s)
}

// TestNextOfAnEmptySet: each number isn't of it; none is.
func TestNextOfAnEmptySet(t *testing.T) {
	for _, n := range counts {
		s := newSet(t, n)
		for _, from := range froms(n) {
			isNext(t, s, from, true, 0, false)
			isNext(t, s, from, false, leastFrom(n, from), from < n)
		}
	}
}

// TestNextOfAFullSet: each number is of it; none isn't, also behind the last one.
func TestNextOfAFullSet(t *testing.T) {
	for _, n := range counts {
		s, _ := fullSet(t, n)
		for _, from := range froms(n) {
			isNext(t, s, from, true, leastFrom(n, from), from < n)
			isNext(t, s, from, false, 0, false)
		}
	}
}

// leastFrom: the least number that isn't below from, of n; 0, if there is none.
func leastFrom(n, from int) int {
	if from >= n {
		return 0
	}
	return max(0, from)
}

// TestNextWithOneNumber: one is of the set, at each place.
func TestNextWithOneNumber(t *testing.T) {
	for _, n := range counts {
		s := newSet(t, n)
		for at := range n {
			s.Put(at, true)
			isAlone(t, s, at, true)
			s.Put(at, false)
		}
	}
}

// TestNextWithAllButOneNumber: one isn't of the set, at each place.
func TestNextWithAllButOneNumber(t *testing.T) {
	for _, n := range counts {
		s, _ := fullSet(t, n)
		for at := range n {
			s.Put(at, false)
			isAlone(t, s, at, false)
			s.Put(at, true)
		}
	}
}

// isAlone: what Next answers, where this number alone is of the set (or isn't, as is says).
func isAlone(t *testing.T, s *Set, at int, is bool) {
	t.Helper()
	n := s.Size()
	list := around(n, at)
	if asksAll(n) {
		list = froms(n)
	}
	for _, from := range list {
		if from <= at {
			isNext(t, s, from, is, at, true)
		} else {
			isNext(t, s, from, is, 0, false)
		}
		other := max(0, from)
		if other == at {
			other++
		}
		if other < n {
			isNext(t, s, from, !is, other, true)
		} else {
			isNext(t, s, from, !is, 0, false)
		}
	}
}

// TestNextOfMixedSets: from each number, beside a twin.
func TestNextOfMixedSets(t *testing.T) {
	for _, n := range counts {
		next := stepper()
		for _, share := range []int{2, 3, 20, 100} {
			s, w := both(t, n)
			for k := range n {
				w.puts(t, s, k, next(share) == 0)
			}
			w.finds(t, s, froms(n))
			w.looks(t, s) // it has changed nothing
		}
	}
}

// TestNextGoesThroughASet: from one behind each, all that are of the set are come upon, and then all that aren't.
func TestNextGoesThroughASet(t *testing.T) {
	for _, n := range counts {
		s, w := both(t, n, alternate(n)...)
		seen := 0
		for _, is := range []bool{true, false} {
			for k, ok := s.Next(0, is); ok; k, ok = s.Next(k+1, is) {
				if seen++; w[k] != is || seen > n {
					t.Fatalf("of %d: %d is told, of %v", n, k, is)
				}
			}
		}
		if seen != n {
			t.Errorf("of %d: %d were told", n, seen)
		}
	}
}
