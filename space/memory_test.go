package space

import (
	"slices"
	"testing"
)

// roomy: a list with room behind, where something lies.
func roomy(l ...int) (list, whole []int) {
	whole = append(slices.Clone(l), 2, 77, -5, 77, 0)
	return whole[:len(l)], whole
}

// spoil: another number at each place.
func spoil(l []int) {
	for i := range l {
		l[i] = ^l[i]
	}
}

// R4: a list that is handed in stays as it was, room and all, whether it is taken or refused, and whatever is done behind it.
func TestListStays(t *testing.T) {
	for _, l := range [][]int{{}, {3}, {0, 1, 2}, {5, 3, 1}, {2, 0, 5, 4, 1, 3}, {1, 1}, {4, 6}, {-1, 2}, {5, 4, 3, 2, 1, 0, 0}} {
		list, whole := roomy(l...)
		was := slices.Clone(whole)
		s := fresh(t, 6)
		s.Only(list)
		for range 2 {
			s.Take()
			s.Give(0)
			s.Give(3)
			s.Take()
			s.Only(list)
			s.Only(nil)
		}
		if !slices.Equal(whole, was) {
			t.Errorf("Only: %v was handed in, now it is %v", was, whole)
		}
	}
}

// R4: nothing is kept of a list: writing into it later, its room too, changes nothing.
func TestListIsNotKept(t *testing.T) {
	for _, l := range [][]int{{}, {3}, {0, 1, 2}, {5, 3, 1}, {2, 0, 5, 4, 1, 3}} {
		s := fresh(t, 6)
		list, whole := roomy(l...)
		only(t, s, list, ok)
		spoil(whole)
		has(t, s, 6, l...)
		drained(t, s, 6, l)

		list, whole = roomy(l...)
		only(t, s, list, ok)
		clear(whole)
		has(t, s, 6, l...)
		drained(t, s, 6, l)
	}
}

// R4: of a list that was refused nothing is kept either.
func TestRefusedListIsNotKept(t *testing.T) {
	s := fresh(t, 6)
	only(t, s, []int{1, 2}, ok)
	for _, l := range [][]int{{3, 3}, {0, 4, 6}, {-1}, {5, 4, 3, 2, 1, 0, 0}} {
		list, whole := roomy(l...)
		only(t, s, list, errArg)
		spoil(whole)
		has(t, s, 6, 1, 2)
	}
	drained(t, s, 6, []int{1, 2})
}

// R4: one list handed to two spaces: what is done to the one is not done to the other.
func TestListOfTwo(t *testing.T) {
	a, b := fresh(t, 4), fresh(t, 6)
	l := []int{3, 1}
	only(t, a, l, ok)
	only(t, b, l, ok)
	gives(t, a, 3, ok)
	takes(t, b, 0, 2)
	has(t, a, 4, 1)
	has(t, b, 6, 0, 1, 2, 3)
	if !slices.Equal(l, []int{3, 1}) {
		t.Errorf("the list is now %v", l)
	}
}
