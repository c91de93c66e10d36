package space

import (
	"math"
	"slices"
	"testing"

	"marginalia/api"
)

const (
	ok      = api.OK
	errArg  = api.ErrArg
	errFull = api.ErrFull
)

func fresh(t *testing.T, n int) *Space {
	t.Helper()
	s, e := New(n)
	if e != ok || s == nil {
		t.Fatalf("New(%d): %v, %d", n, s, e)
	}
	return s
}

func takes(t *testing.T, s *Space, want ...int) {
	t.Helper()
	for _, i := range want {
		if got, e := s.Take(); got != i || e != ok {
			t.Fatalf("Take: %d, %d, not %d", got, e, i)
		}
	}
}

func full(t *testing.T, s *Space) {
	t.Helper()
	if got, e := s.Take(); got != 0 || e != errFull {
		t.Fatalf("Take: %d, %d, not %d", got, e, errFull)
	}
}

func gives(t *testing.T, s *Space, i int, want api.Errno) {
	t.Helper()
	if e := s.Give(i); e != want {
		t.Fatalf("Give(%d): %d, not %d", i, e, want)
	}
}

func only(t *testing.T, s *Space, l []int, want api.Errno) {
	t.Helper()
	if e := s.Only(l); e != want {
		t.Fatalf("Only(%v): %d, not %d", l, e, want)
	}
}

// has: just these of n numbers are taken, and none that is no number; asked twice, for asking changes nothing.
func has(t *testing.T, s *Space, n int, taken ...int) {
	t.Helper()
	for range 2 {
		if got := s.Free(); got != n-len(taken) {
			t.Fatalf("Free: %d, not %d", got, n-len(taken))
		}
		for i := range n {
			if got := s.Taken(i); got != slices.Contains(taken, i) {
				t.Fatalf("Taken(%d): %t", i, got)
			}
		}
		for _, i := range nowhere(n) {
			if s.Taken(i) {
				t.Fatalf("Taken(%d), of %d numbers", i, n)
			}
		}
	}
}

// nowhere: what no number of a space of so many is.
func nowhere(n int) []int {
	return []int{-1, -2, -n, -n - 1, n, n + 1, api.MaxBlocks, api.MaxBlocks + 1, 1 << 16, 1 << 32, -1 << 32, math.MaxInt32, math.MinInt32, math.MaxInt, math.MinInt}
}

// first: the numbers below n.
func first(n int) []int {
	var out []int
	for i := range n {
		out = append(out, i)
	}
	return out
}

// P18.1: the chapter's example.
func TestExample(t *testing.T) {
	s := fresh(t, 3)
	takes(t, s, 0, 1)
	gives(t, s, 0, ok)
	takes(t, s, 0, 2)
	full(t, s)
}

// P18.1: how many numbers a space may have; all of them are free at first.
func TestNew(t *testing.T) {
	for _, n := range []int{math.MinInt, math.MinInt32, -api.MaxBlocks, -1<<32 + 1, -2, -1, 0, api.MaxBlocks + 1, 1 << 13, 1 << 16, 1<<32 + 1, math.MaxInt32, math.MaxInt} {
		if s, e := New(n); s != nil || e != errArg {
			t.Errorf("New(%d): %v, %d, not %d", n, s, e, errArg)
		}
	}
	for _, n := range []int{1, 2, 3, 63, 64, 65, api.MaxBlocks - 1, api.MaxBlocks} {
		has(t, fresh(t, n), n)
	}
}

// P18.1: of each size the numbers are those below it, one by one; behind the last one there is none.
func TestTakeAll(t *testing.T) {
	for _, n := range []int{1, 2, 3, 64, 65, api.MaxBlocks - 1, api.MaxBlocks} {
		s := fresh(t, n)
		takes(t, s, first(n-1)...)
		has(t, s, n, first(n-1)...)
		takes(t, s, n-1)
		has(t, s, n, first(n)...)
		full(t, s)
		full(t, s)
		has(t, s, n, first(n)...)
		gives(t, s, n-1, ok)
		takes(t, s, n-1)
		full(t, s)
	}
}

// P18.1: what is free, what was given already, and what is no number may not be given; nothing is changed.
func TestGive(t *testing.T) {
	for _, n := range []int{1, 4, 100, api.MaxBlocks} {
		s := fresh(t, n)
		gives(t, s, 0, errArg)
		gives(t, s, n-1, errArg)
		has(t, s, n)
		takes(t, s, first(n)...)
		for _, i := range nowhere(n) {
			gives(t, s, i, errArg)
		}
		has(t, s, n, first(n)...)
		gives(t, s, n-1, ok)
		has(t, s, n, first(n-1)...)
		gives(t, s, n-1, errArg)
		has(t, s, n, first(n-1)...)
		takes(t, s, n-1)
		full(t, s)
	}
}

// P18.1: each number may be given, whichever are taken beside it.
func TestGiveEach(t *testing.T) {
	const n = 9
	for i := range n {
		s := fresh(t, n)
		gives(t, s, i, errArg)
		takes(t, s, first(i)...)
		gives(t, s, i, errArg)
		takes(t, s, i)
		gives(t, s, i, ok)
		has(t, s, n, first(i)...)
		gives(t, s, i, errArg)
		takes(t, s, first(n)[i:]...)
		gives(t, s, i, ok)
		has(t, s, n, slices.Delete(first(n), i, i+1)...)
		gives(t, s, i, errArg)
		takes(t, s, i)
		full(t, s)
	}
}

// P18.1: just the numbers of the list are taken, whichever were ahead.
func TestOnly(t *testing.T) {
	for _, ahead := range [][]int{nil, {0}, {4}, {1, 3}, {0, 1, 2, 3, 4}} {
		for _, l := range [][]int{nil, {}, {0}, {4}, {2}, {3, 1}, {4, 0}, {1, 2, 3}, {3, 4, 1, 2}, {4, 3, 2, 1, 0}, {0, 1, 2, 3, 4}, {2, 4, 0, 3, 1}} {
			s := fresh(t, 5)
			only(t, s, ahead, ok)
			has(t, s, 5, ahead...)
			only(t, s, l, ok)
			has(t, s, 5, l...)
			only(t, s, l, ok)
			has(t, s, 5, l...)
			drained(t, s, 5, l)
		}
	}
}

// drained: what is not taken yet is told, each once, the least first; each may be given then.
func drained(t *testing.T, s *Space, n int, taken []int) {
	t.Helper()
	for i := range n {
		if !slices.Contains(taken, i) {
			takes(t, s, i)
		}
	}
	full(t, s)
	for i := range n {
		gives(t, s, i, ok)
	}
	has(t, s, n)
}

// P18.1: all numbers, in some orders, and none of them.
func TestOnlyAllAndNothing(t *testing.T) {
	for _, n := range []int{1, 2, 64, 65, api.MaxBlocks - 1, api.MaxBlocks} {
		backward := first(n)
		slices.Reverse(backward)
		turned := append(first(n)[n/3:], first(n/3)...)
		for _, l := range [][]int{first(n), backward, turned} {
			s := fresh(t, n)
			only(t, s, l, ok)
			has(t, s, n, first(n)...)
			full(t, s)
			gives(t, s, n/2, ok)
			takes(t, s, n/2)
			full(t, s)
			only(t, s, nil, ok)
			has(t, s, n)
			takes(t, s, 0)
			only(t, s, []int{}, ok)
			has(t, s, n)
			takes(t, s, first(n)...)
			full(t, s)
		}
	}
}

// P18.1: a list with something at a place that is no number, ahead of and behind takes and gives: nothing is changed.
func TestOnlyOfNoNumber(t *testing.T) {
	for _, n := range []int{1, 5, 64} {
		for _, long := range []int{0, 1, n - 1, n} {
			for at := range long + 1 {
				for _, bad := range nowhere(n) {
					s := fresh(t, n)
					l := slices.Insert(first(long), at, bad)
					only(t, s, l, errArg)
					has(t, s, n)
					takes(t, s, 0)
					only(t, s, l, errArg)
					has(t, s, n, 0)
					gives(t, s, 0, ok)
					only(t, s, l, errArg)
					has(t, s, n)
					takes(t, s, first(n)...)
					only(t, s, l, errArg)
					full(t, s)
				}
			}
		}
	}
}

// P18.1: a list in which a number stands twice, at all two places: nothing is changed.
func TestOnlyOfTwice(t *testing.T) {
	const n = 6
	for long := range n + 1 {
		for i := range long {
			for at := range long + 1 {
				l := slices.Insert(first(long), at, i)
				s := fresh(t, n)
				only(t, s, l, errArg)
				has(t, s, n)
				only(t, s, []int{1, 4}, ok)
				only(t, s, l, errArg)
				has(t, s, n, 1, 4)
				gives(t, s, 1, ok)
				only(t, s, l, errArg)
				has(t, s, n, 4)
				takes(t, s, 0)
				only(t, s, l, errArg)
				has(t, s, n, 4, 0)
				takes(t, s, 1, 2, 3, 5)
				full(t, s)
			}
		}
	}
}

// P18.1: a list of more than all numbers has one twice, or what is none.
func TestOnlyOfTooMany(t *testing.T) {
	for _, n := range []int{1, 2, 64, api.MaxBlocks} {
		s := fresh(t, n)
		takes(t, s, 0)
		only(t, s, append(first(n), n-1), errArg)
		only(t, s, append(first(n), 0), errArg)
		only(t, s, first(n+1), errArg)
		only(t, s, append(first(n), first(n)...), errArg)
		only(t, s, make([]int, 100000), errArg)
		has(t, s, n, 0)
		takes(t, s, first(n)[1:]...)
		full(t, s)
	}
}

// P18.1: spaces beside each other have nothing to do with one another.
func TestBesideEachOther(t *testing.T) {
	a, b, c := fresh(t, 3), fresh(t, 3), fresh(t, 5)
	takes(t, a, 0, 1)
	takes(t, c, 0)
	has(t, b, 3)
	only(t, b, []int{2}, ok)
	has(t, a, 3, 0, 1)
	gives(t, a, 2, errArg)
	gives(t, a, 0, ok)
	gives(t, c, 3, errArg)
	only(t, c, []int{4, 2, 0}, ok)
	gives(t, b, 2, ok)
	has(t, a, 3, 1)
	has(t, b, 3)
	has(t, c, 5, 0, 2, 4)
	takes(t, a, 0, 2)
	takes(t, b, 0, 1, 2)
	takes(t, c, 1, 3)
	full(t, a)
	full(t, b)
	full(t, c)
	gives(t, c, 4, ok)
	full(t, a)
	full(t, b)
}

// P18.1: a nil space, and one that New did not make, has no numbers.
func TestNoSpace(t *testing.T) {
	for _, s := range []*Space{nil, {}} {
		full(t, s)
		for _, i := range append(nowhere(0), first(3)...) {
			gives(t, s, i, errArg)
			only(t, s, []int{i}, errArg)
			if s.Taken(i) {
				t.Errorf("Taken(%d) of no space", i)
			}
		}
		if got := s.Free(); got != 0 {
			t.Errorf("Free of no space: %d", got)
		}
	}
	var s *Space
	only(t, s, nil, errArg)
	only(t, s, []int{}, errArg)
	only(t, s, []int{1, 1}, errArg)
}
