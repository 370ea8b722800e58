package bits

import (
	"slices"
	"testing"

	"treenail/api"
)

// twin is a set, made as plainly as can be: whether each number is of it.
type twin []bool

func twinOf(n int, of ...int) twin {
	w := make(twin, n)
	for _, k := range of {
		w[k] = true
	}
	return w
}

func (w twin) put(k int, is bool) bool {
	if k < 0 || k >= len(w) {
		return false
	}
	was := w[k]
	w[k] = is
	return was
}

func (w twin) list() []int {
	var list []int
	for k, is := range w {
		if is {
			list = append(list, k)
		}
	}
	return list
}

func (w twin) next(from int, is bool) (int, bool) {
	for k, was := range w {
		if k >= from && was == is {
			return k, true
		}
	}
	return 0, false
}

// looks: the set's Size, Count, List and each Has are the twin's.
func (w twin) looks(t *testing.T, s *Set) {
	t.Helper()
	list := w.list()
	if s.Size() != len(w) || s.Count() != len(list) || !slices.Equal(s.List(), list) {
		t.Fatalf("of %d, %d are: %v; not of %d, %d: %v", s.Size(), s.Count(), s.List(), len(w), len(list), list)
	}
	for k, is := range w {
		if s.Has(k) != is {
			t.Fatalf("of %d: Has(%d) = %v", len(w), k, !is)
		}
	}
}

// finds: the set's Next is the twin's, from each of these.
func (w twin) finds(t *testing.T, s *Set, froms []int) {
	t.Helper()
	for _, from := range froms {
		for _, is := range []bool{true, false} {
			k, ok := w.next(from, is)
			isNext(t, s, from, is, k, ok)
		}
	}
}

func isNext(t *testing.T, s *Set, from int, is bool, want int, wanted bool) {
	t.Helper()
	if k, ok := s.Next(from, is); k != want || ok != wanted {
		t.Fatalf("of %d, with %v: Next(%d, %v) = %d, %v; not %d, %v", s.Size(), s.List(), from, is, k, ok, want, wanted)
	}
}

// puts: the set's Put is the twin's.
func (w twin) puts(t *testing.T, s *Set, k int, is bool) {
	t.Helper()
	was := w.put(k, is)
	if told := s.Put(k, is); told != was {
		t.Fatalf("of %d: Put(%d, %v) = %v", len(w), k, is, told)
	}
}

func newSet(t *testing.T, n int) *Set {
	t.Helper()
	s, e := New(n)
	if s == nil || e != api.OK {
		t.Fatalf("New(%d): %v", n, e)
	}
	return s
}

// both: a set with some numbers, and its twin.
func both(t *testing.T, n int, of ...int) (*Set, twin) {
	t.Helper()
	s := newSet(t, n)
	for _, k := range of {
		s.Put(k, true)
	}
	return s, twinOf(n, of...)
}

// fullSet: all numbers are of it.
func fullSet(t *testing.T, n int) (*Set, twin) {
	t.Helper()
	return both(t, n, all(n)...)
}

// all: the numbers below n.
func all(n int) []int {
	list := make([]int, n)
	for k := range list {
		list[k] = k
	}
	return list
}

// stepper: numbers below others, as if by chance, but always the same ones.
func stepper() func(below int) int {
	step := uint64(9)
	return func(below int) int {
		step = step*6364136223846793005 + 1442695040888963407
		return int(step >> 33 % uint64(below))
	}
}

// TestBesideATwin: a walk through calls of all kinds, also of numbers that there aren't; now and then it goes on with a copy, and what was left behind stays as it was.
func TestBesideATwin(t *testing.T) {
	for _, n := range counts {
		next := stepper()
		s, w := both(t, n)
		left, leftTwin := s.Copy(), slices.Clone(w)
		for range 3000 {
			k := next(n+4) - 2
			switch next(8) {
			case 0:
				left, leftTwin = s, slices.Clone(w)
				s = s.Copy()
			case 1:
				w.finds(t, s, []int{k})
			case 2, 3, 4:
				w.puts(t, s, k, false)
			default:
				w.puts(t, s, k, true)
			}
			if next(n/8+1) == 0 {
				w.looks(t, s)
				leftTwin.looks(t, left)
			}
		}
		w.looks(t, s)
		leftTwin.looks(t, left)
	}
}
