package marks

import (
	"math"
	"slices"
	"testing"

	"marginalia/api"
)

// A second reading of the chapter: by words, attribute for attribute and piece for piece.

func saidHas(l []api.Attr, a api.Attr) bool {
	for _, b := range l {
		if a.Name == b.Name && a.Value == b.Value {
			return true
		}
	}
	return false
}

func saidAlike(a, b []api.Attr) bool {
	if len(a) != len(b) {
		return false
	}
	for i := range a {
		if !saidHas(b, a[i]) || !saidHas(a, b[i]) {
			return false
		}
	}
	return true
}

// saidHalves: what stands up to and with the last marker, and what stands behind it.
func saidHalves(l []api.Mark) (ahead, behind []api.Mark) {
	for _, m := range l {
		behind = append(behind, m)
		if m.Id == 0 {
			ahead, behind = append(ahead, behind...), nil
		}
	}
	return ahead, behind
}

func saidBehind(l []api.Mark) []api.Mark {
	_, behind := saidHalves(l)
	return behind
}

func saidPush(l []api.Mark, m api.Mark) []api.Mark {
	ahead, behind := saidHalves(l)
	count := 0
	for _, other := range behind {
		if other.Name == m.Name && saidAlike(m.Attrs, other.Attrs) {
			count++
		}
	}
	goes := m.Id != 0 && count >= 3
	var out []api.Mark
	out = append(out, ahead...)
	for _, other := range behind {
		if goes && other.Name == m.Name && saidAlike(m.Attrs, other.Attrs) {
			goes = false
			continue
		}
		out = append(out, other)
	}
	return append(out, m)
}

func saidLast(l []api.Mark, name string) int {
	ahead, behind := saidHalves(l)
	place := -1
	for i, m := range behind {
		if m.Name == name {
			place = len(ahead) + i
		}
	}
	return place
}

func saidClear(l []api.Mark) []api.Mark {
	ahead, _ := saidHalves(l)
	if len(ahead) == 0 {
		return nil
	}
	return ahead[:len(ahead)-1]
}

func saidFind(l []api.Mark, id int) int {
	place := -1
	for i := len(l) - 1; i >= 0; i-- {
		if l[i].Id == id {
			place = i
		}
	}
	return place
}

func saidDrop(l []api.Mark, id int) []api.Mark {
	var out []api.Mark
	for i, m := range l {
		if i != saidFind(l, id) {
			out = append(out, m)
		}
	}
	return out
}

func saidInsert(l []api.Mark, at int, m api.Mark) []api.Mark {
	if at <= 0 {
		return append([]api.Mark{m}, l...)
	}
	if len(l) == 0 {
		return []api.Mark{m}
	}
	return append([]api.Mark{l[0]}, saidInsert(l[1:], at-1, m)...)
}

func saidRenew(l []api.Mark, open []int) int {
	for place := range l {
		if !slices.ContainsFunc(l[place:], func(m api.Mark) bool { return m.Id == 0 || slices.Index(open, m.Id) >= 0 }) {
			return place
		}
	}
	return len(l)
}

// some: one of each sort that may stand in a list.
func some() []api.Mark {
	return []api.Mark{{}, {Name: "b"}, one("b.1"), one("b.1.x=1;y=2"), one("b.1.y=2;x=1"), one("i.1")}
}

// eachList: all lists of at most that many of some, their Ids by their places, each twice. It ends at the first fault, for one fault shows at thousands of them.
func eachList(t *testing.T, most int, f func(l []api.Mark)) {
	var grow func(l []api.Mark)
	grow = func(l []api.Mark) {
		f(l)
		if len(l) == most || t.Failed() {
			return
		}
		for _, m := range some() {
			if m.Id != 0 {
				m.Id = 1 + len(l)/2
			}
			grow(append(l[:len(l):len(l)], m))
		}
	}
	grow(nil)
}

// P7.1: all pairs of lists of up to four attributes.
func TestAllShortAttrs(t *testing.T) {
	kinds := []api.Attr{{Name: "x"}, {Name: "x", Value: "1"}, {Name: "y"}}
	lists := [][]api.Attr{nil}
	for from, most := 0, 4; most > 0; most-- {
		end := len(lists)
		for ; from < end; from++ {
			for _, a := range kinds {
				lists = append(lists, append(slices.Clone(lists[from]), a))
			}
		}
	}
	for _, a := range lists {
		for _, b := range lists {
			if got, want := Alike(a, b), saidAlike(a, b); got != want {
				t.Fatalf("Alike(%v, %v): %v", a, b, got)
			}
		}
	}
}

// P7.1, P7.3: every call at all lists of up to five, against the second reading.
func TestAllShortLists(t *testing.T) {
	eachList(t, 5, func(l []api.Mark) {
		checkLists(t, l)
		checkPlaces(t, l)
		checkNothingElse(t, l)
	})
}

// checkLists: the calls that tell a list.
func checkLists(t *testing.T, l []api.Mark) {
	t.Helper()
	for _, m := range append(some(), one("b.9.x=1"), one("u.9"), one("b.-1")) {
		if got, want := Push(l, m), saidPush(l, m); !sameList(got, want) {
			t.Errorf("Push(%v, %v): %v, not %v", l, m, got, want)
		}
		for _, at := range []int{math.MinInt, -1, 0, 1, 2, 3, 4, 5, 6, math.MaxInt} {
			if got, want := Insert(l, at, m), saidInsert(l, at, m); !sameList(got, want) {
				t.Errorf("Insert(%v, %d, %v): %v, not %v", l, at, m, got, want)
			}
		}
	}
	for id := -1; id <= 4; id++ {
		if got, want := Drop(l, id), saidDrop(l, id); !sameList(got, want) {
			t.Errorf("Drop(%v, %d): %v, not %v", l, id, got, want)
		}
	}
	if got, want := Clear(l), saidClear(l); !sameList(got, want) {
		t.Errorf("Clear(%v): %v, not %v", l, got, want)
	}
}

// checkPlaces: the calls that tell a place.
func checkPlaces(t *testing.T, l []api.Mark) {
	t.Helper()
	for _, name := range []string{"b", "i", "", "B", "u"} {
		if got, want := Last(l, name), saidLast(l, name); got != want {
			t.Errorf("Last(%v, %q): %d, not %d", l, name, got, want)
		}
	}
	for id := -1; id <= 4; id++ {
		if got, want := Find(l, id), saidFind(l, id); got != want {
			t.Errorf("Find(%v, %d): %d, not %d", l, id, got, want)
		}
	}
	for _, open := range [][]int{nil, {0}, {1}, {2}, {3}, {1, 2}, {9, 3, 1}, {-1, 7}} {
		if got, want := Renew(l, open), saidRenew(l, open); got != want {
			t.Errorf("Renew(%v, %v): %d, not %d", l, open, got, want)
		}
	}
}

// checkNothingElse: what P7.3 says: all that Push, Drop and Insert leave, but m and at most one that goes, is l in its order.
func checkNothingElse(t *testing.T, l []api.Mark) {
	t.Helper()
	m := one("b.9.y=2;x=1")
	got := Push(l, m)
	if !sameMark(got[len(got)-1], m) || !sameList(got[:len(got)-1], l) && !lessOne(got[:len(got)-1], l) {
		t.Errorf("Push(%v): %v", l, got)
	}
	for id := range 4 {
		if got := Drop(l, id); !sameList(got, l) && !lessOne(got, l) {
			t.Errorf("Drop(%v, %d): %v", l, id, got)
		}
	}
	for at := range len(l) + 1 {
		if got := Insert(l, at, m); !sameMark(got[at], m) || !sameList(slices.Delete(got, at, at+1), l) {
			t.Errorf("Insert(%v, %d): %v", l, at, got)
		}
	}
}

// lessOne: is it l without just one of its entries?
func lessOne(less, l []api.Mark) bool {
	for i := range l {
		if sameList(less, slices.Delete(slices.Clone(l), i, i+1)) {
			return true
		}
	}
	return false
}
