package marks

import (
	"slices"
	"testing"

	"marginalia/api"
)

// stranger stands nowhere, so that where it is found somebody wrote it.
var stranger = api.Mark{Id: 4711, Name: "stranger", Attrs: []api.Attr{{Name: "s"}}}

// calls: each call that tells a list, in each of its ways.
func calls() map[string]func(l []api.Mark) []api.Mark {
	m := one("b.9.x=1")
	return map[string]func(l []api.Mark) []api.Mark{
		"Push":                 func(l []api.Mark) []api.Mark { return Push(l, m) },
		"Push of another":      func(l []api.Mark) []api.Mark { return Push(l, one("u.9")) },
		"Push of a marker":     func(l []api.Mark) []api.Mark { return Push(l, api.Mark{}) },
		"Clear":                Clear,
		"Drop of the first":    func(l []api.Mark) []api.Mark { return Drop(l, 1) },
		"Drop of the last":     func(l []api.Mark) []api.Mark { return Drop(l, 5) },
		"Drop of a marker":     func(l []api.Mark) []api.Mark { return Drop(l, 0) },
		"Drop of none":         func(l []api.Mark) []api.Mark { return Drop(l, 77) },
		"Insert at 0":          func(l []api.Mark) []api.Mark { return Insert(l, 0, m) },
		"Insert in the middle": func(l []api.Mark) []api.Mark { return Insert(l, 2, m) },
		"Insert at the end":    func(l []api.Mark) []api.Mark { return Insert(l, len(l), m) },
		"Insert far above":     func(l []api.Mark) []api.Mark { return Insert(l, 1<<40, m) },
		"Insert below 0":       func(l []api.Mark) []api.Mark { return Insert(l, -3, m) },
	}
}

// lists: what each call is asked of; Push drops one of some, and not of others.
func lists() []string {
	return []string{"", "b.1.x=1", "|", "b.1.x=1 b.2.x=1 b.3.x=1", "b.1.x=1 b.2.x=1 i.3 b.4.x=1 b.5.x=1", "a.1 | b.2 | b.5", "a.1 b.2 i.3 u.4 |", "| b.1.x=1 b.2.x=1 b.4.x=1 b.5.x=1"}
}

// with: the list, with room behind its end, where strangers lie.
func with(text string, room int) (l, whole []api.Mark) {
	whole = list(text)
	n := len(whole)
	for range room {
		whole = append(whole, stranger)
	}
	whole = slices.Clip(whole)
	return whole[:n], whole
}

// P7.1, P7.3, R4: what is told shares no memory with the list that was handed in, its room neither; that list and what lies behind it stay as they were.
func TestNewMemory(t *testing.T) {
	for name, call := range calls() {
		for _, text := range lists() {
			for _, room := range []int{0, 1, 2, 9} {
				l, whole := with(text, room)
				before := slices.Clone(whole)
				got := call(l)
				if !sameList(whole, before) {
					t.Errorf("%s of %q with room for %d: it is changed to %v", name, text, room, whole)
				}
				kept := slices.Clone(got)
				for i := range whole {
					whole[i] = api.Mark{Id: -8, Name: "written behind"}
				}
				if !sameList(got, kept) {
					t.Errorf("%s of %q with room for %d: what is told changes with what was handed in", name, text, room)
				}
				copy(whole, before)
				got = got[:cap(got)]
				for i := range got {
					got[i] = api.Mark{Id: -9, Name: "written into what is told"}
				}
				if !sameList(whole, before) {
					t.Errorf("%s of %q with room for %d: what was handed in changes with what is told", name, text, room)
				}
			}
		}
	}
}

// R4: two answers of one list share nothing either, also where one is grown from the other.
func TestAnswersApart(t *testing.T) {
	l := list("a.1")
	for range 9 {
		l = Push(l, one("i.2.x=1"))
		ahead := slices.Clone(l)
		first, second := Push(l, one("b.3")), Push(l, one("u.4"))
		under, drop := Insert(l, len(l), one("s.5")), Drop(l, 99)
		if first[len(first)-1].Name != "b" || second[len(second)-1].Name != "u" || under[len(under)-1].Name != "s" {
			t.Fatalf("one answer is written over another: %v %v %v", first, second, under)
		}
		drop[0] = stranger
		if !sameList(l, ahead) {
			t.Fatalf("a list is changed: %v", l)
		}
		l = first
	}
}

// R5: what is told hangs on the list, not on the room behind it.
func TestRoomIsNotRead(t *testing.T) {
	for name, call := range calls() {
		for _, text := range lists() {
			tight, _ := with(text, 0)
			wide, _ := with(text, 9)
			if a, b := call(tight), call(wide); !sameList(a, b) {
				t.Errorf("%s of %q: %v, with room behind it %v", name, text, a, b)
			}
		}
	}
	l, _ := with("a.1 b.2", 3)
	if Last(l, stranger.Name) != -1 || Find(l, stranger.Id) != -1 || Renew(l, []int{stranger.Id}) != 0 {
		t.Error("what lies behind the end is read")
	}
	open := []int{9, 1, 2}
	if Renew(l, open[:1]) != 0 || !slices.Equal(open, []int{9, 1, 2}) {
		t.Error("what lies behind the end of the open ones is read, or they are changed")
	}
}

// P7.1: the Attrs of what is told are those that were handed in.
func TestAttrsStay(t *testing.T) {
	m := one("b.9.x=1")
	for _, text := range lists() {
		l := list(text)
		for _, got := range [][]api.Mark{Push(l, m), Insert(l, 1, m), Drop(l, 2), Clear(l)} {
			for _, entry := range got {
				if len(entry.Attrs) != 0 && !handedIn(entry, append(slices.Clone(l), m)) {
					t.Errorf("%v of %q has Attrs of its own", entry, text)
				}
			}
		}
	}
}

func handedIn(entry api.Mark, l []api.Mark) bool {
	return slices.ContainsFunc(l, func(m api.Mark) bool { return len(m.Attrs) != 0 && &m.Attrs[0] == &entry.Attrs[0] })
}

// R4: attributes that are held against each other stay in their order, and what lies behind them is neither read nor changed.
func TestAttrsUnchanged(t *testing.T) {
	room, other := attrs("z=3;y=2;y=2;x=1;b=9;a=8"), attrs("y=2;x=1;x=1;z=3;q=7")
	roomAhead, otherAhead := slices.Clone(room), slices.Clone(other)
	if !Alike(room[:4], other[:4]) || Alike(room[:4], other[:3]) || Alike(room[:5], other) {
		t.Error("Alike with room behind the lists")
	}
	l := []api.Mark{{Id: 1, Name: "b", Attrs: room[:4]}, {Id: 2, Name: "b", Attrs: other[:4]}, {Id: 3, Name: "b", Attrs: room[:4]}}
	if got := Push(l, api.Mark{Id: 4, Name: "b", Attrs: other[:4]}); len(got) != 3 || got[0].Id != 2 || got[2].Id != 4 {
		t.Errorf("Push: %v", got)
	}
	if !slices.Equal(room, roomAhead) || !slices.Equal(other, otherAhead) {
		t.Error("attributes are changed")
	}
}
