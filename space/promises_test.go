package space

import (
	"slices"
	"testing"

	"marginalia/api"
)

// P18.2: from all numbers taken some are given, in each order: just these are told again, once, the least first.
func TestGivenInEachOrder(t *testing.T) {
	const n = 6
	var lay func(given []int)
	lay = func(given []int) {
		s := fresh(t, n)
		takes(t, s, first(n)...)
		for _, i := range given {
			gives(t, s, i, ok)
		}
		takes(t, s, slices.Sorted(slices.Values(given))...)
		full(t, s)
		for i := range n {
			if !slices.Contains(given, i) {
				lay(append(given[:len(given):len(given)], i))
			}
		}
	}
	lay(nil)
}

// P18.2: behind an Only in each order, too.
func TestOnlyInEachOrder(t *testing.T) {
	const n = 5
	var lay func(l []int)
	lay = func(l []int) {
		s := fresh(t, n)
		only(t, s, l, ok)
		has(t, s, n, l...)
		drained(t, s, n, l)
		for i := range n {
			if !slices.Contains(l, i) {
				lay(append(l[:len(l):len(l)], i))
			}
		}
	}
	lay(nil)
}

// P18.2: of many numbers, given in any order, with takes between the gives.
func TestGivenOfMany(t *testing.T) {
	for seed, n := range []int{64, 65, 1000, api.MaxBlocks} {
		c := chance(seed)
		s := fresh(t, n)
		only(t, s, c.order(n), ok)
		var free []int // rising
		for _, i := range c.order(n) {
			gives(t, s, i, ok)
			at, _ := slices.BinarySearch(free, i)
			free = slices.Insert(free, at, i)
			if c.below(3) == 0 {
				takes(t, s, free[0])
				free = free[1:]
			}
			if s.Free() != len(free) {
				t.Fatalf("Free: %d, not %d", s.Free(), len(free))
			}
		}
		takes(t, s, free...)
		full(t, s)
	}
}

// P18.2: what is told is not told again till it is given: with each take all that was told and not given stays taken.
func TestToldOnce(t *testing.T) {
	const n = 50
	for seed := range 100 {
		c := chance(seed)
		s := fresh(t, n)
		var mine []int
		for range 400 {
			if c.below(9) < 4 && len(mine) > 0 {
				k := c.below(len(mine))
				gives(t, s, mine[k], ok)
				gives(t, s, mine[k], errArg)
				mine = slices.Delete(mine, k, k+1)
				continue
			}
			i, e := s.Take()
			if e != ok {
				full(t, s)
				has(t, s, n, mine...)
				continue
			}
			if slices.Contains(mine, i) {
				t.Fatalf("%d is told, and was not given", i)
			}
			mine = append(mine, i)
			for k := range i {
				if !slices.Contains(mine, k) {
					t.Fatalf("%d is told, and %d is free", i, k)
				}
			}
		}
		has(t, s, n, mine...)
	}
}
