package marks

import (
	"math"
	"slices"
	"strconv"
	"strings"
	"testing"

	"marginalia/api"
)

// attrs: attributes as `name=value`, with `;` between them.
func attrs(text string) []api.Attr {
	var out []api.Attr
	for _, one := range strings.FieldsFunc(text, func(r rune) bool { return r == ';' }) {
		name, value, _ := strings.Cut(one, "=")
		out = append(out, api.Attr{Name: name, Value: value})
	}
	return out
}

// list: entries as `name.id` or `name.id.attributes`; a stroke is a marker.
func list(text string) []api.Mark {
	var out []api.Mark
	for _, one := range strings.Fields(text) {
		if one == "|" {
			out = append(out, api.Mark{})
			continue
		}
		name, rest, _ := strings.Cut(one, ".")
		number, with, _ := strings.Cut(rest, ".")
		id, err := strconv.Atoi(number)
		if err != nil {
			panic(one)
		}
		out = append(out, api.Mark{Id: id, Name: name, Attrs: attrs(with)})
	}
	return out
}

func one(text string) api.Mark { return list(text)[0] }

func sameMark(a, b api.Mark) bool {
	return a.Id == b.Id && a.Name == b.Name && slices.Equal(a.Attrs, b.Attrs)
}

func sameList(a, b []api.Mark) bool { return slices.EqualFunc(a, b, sameMark) }

// told: is it just what is wanted?
func told(t *testing.T, call string, got []api.Mark, want string) {
	t.Helper()
	if !sameList(got, list(want)) {
		t.Errorf("%s: %v, not %q", call, got, want)
	}
}

// P7.1: Alike at the edges that the chapter names.
func TestAlike(t *testing.T) {
	for _, x := range []struct {
		a, b string
		want bool
	}{
		{"", "", true}, {"x=1", "x=1", true}, {"x=1;y=2", "y=2;x=1", true}, {"x=1;y=2;z=3", "z=3;x=1;y=2", true}, {"x;y", "y;x", true},
		{"x=1", "", false}, {"x=1;y=2", "x=1", false}, {"x=1;x=1", "x=1", false}, {"x=1;y=2", "x=1;y=2;y=2", false},
		{"x=1", "x=2", false}, {"x=1", "x", false}, {"x=1", "y=1", false}, {"x=1", "X=1", false}, {"x=a", "x=A", false}, {"x=y", "y=x", false},
		{"x=1;y=2", "x=2;y=1", false}, {"x=1;y=2", "x=1;y=3", false}, {"x=1;y=2", "x=1;z=2", false}, {"x=1;y=2", "z=1;y=2", false},
		// A Name twice: of one Value, of two; each has its like in the other, or one has not.
		{"x=1;x=1", "x=1;x=1", true}, {"x=1;x=1", "x=1;x=2", false}, {"x=1;x=2", "x=2;x=1", true}, {"x=1;x=2", "x=1;x=3", false}, {"x=1;x=2", "x=1;y=2", false},
		{"x=1;x=1;y=2", "x=1;y=2;y=2", true}, {"x=1;x=1;y=2", "y=2;x=1;x=1", true}, {"x=1;x=1;y=2", "x=1;y=2;z=3", false}, {"x=1;x=1", "x=1;y=2", false},
		{"x=1;x=1;x=1", "x=1;x=1;x=2", false}, {"x=1;x=1;x=2", "x=2;x=2;x=1", true},
	} {
		if Alike(attrs(x.a), attrs(x.b)) != x.want || Alike(attrs(x.b), attrs(x.a)) != x.want {
			t.Errorf("Alike of %q and %q is not %v", x.a, x.b, x.want)
		}
	}
	if !Alike(nil, []api.Attr{}) || !Alike([]api.Attr{}, nil) || !Alike(nil, nil) || !Alike(attrs("x=1")[:0], nil) {
		t.Error("Alike of none at all")
	}
}

// P7.1: Names and Values are bytes, and are not run together.
func TestAlikeBytes(t *testing.T) {
	odd := []api.Attr{{}, {Name: "", Value: "ab"}, {Name: "a", Value: "b"}, {Name: "ab"}, {Name: "a", Value: "b\x00"}, {Name: "a\x00", Value: "b"}, {Name: "\xFF"}, {Name: "\xFE"}, {Name: "\uFFFD"}, {Name: "\u00E9"}, {Name: "e\u0301"}, {Name: "a", Value: " b"}, {Name: "a=", Value: "b"}}
	for i, a := range odd {
		for k, b := range odd {
			if Alike([]api.Attr{a}, []api.Attr{b}) != (i == k) {
				t.Errorf("Alike of %q and %q", a, b)
			}
		}
	}
	back := slices.Clone(odd)
	slices.Reverse(back)
	if !Alike(odd, back) || Alike(odd, odd[1:]) {
		t.Error("Alike of all of them")
	}
}

// P7.1, P7.3: Push at the edges that the chapter names.
func TestPush(t *testing.T) {
	for _, x := range []struct{ l, m, want string }{
		{"", "b.1", "b.1"}, {"", "|", "|"}, {"", "b.1.x=1", "b.1.x=1"},
		{"b.1", "b.2", "b.1 b.2"}, {"b.1 b.2", "b.3", "b.1 b.2 b.3"},
		{"b.1 b.2 b.3", "b.4", "b.2 b.3 b.4"}, {"i.9 b.1 i.8 b.2 i.7 b.3 i.6", "b.4", "i.9 i.8 b.2 i.7 b.3 i.6 b.4"},
		{"b.1 b.2 b.3", "i.4", "b.1 b.2 b.3 i.4"}, {"b.1 b.2 b.3", "B.4", "b.1 b.2 b.3 B.4"},
		// Of the same Name and not alike.
		{"b.1 b.2 b.3", "b.4.x=1", "b.1 b.2 b.3 b.4.x=1"}, {"b.1 b.2.x=1 b.3", "b.4", "b.1 b.2.x=1 b.3 b.4"}, {"b.1.x=1 b.2.x=2 b.3.x=3", "b.4.x=1", "b.1.x=1 b.2.x=2 b.3.x=3 b.4.x=1"},
		{"b.9 b.1.x=1 b.2.x=1 i.8.x=1 b.3.x=1", "b.4.x=1", "b.9 b.2.x=1 i.8.x=1 b.3.x=1 b.4.x=1"},
		// Alike in another order, and with one twice.
		{"b.1.x=1;y=2 b.2.y=2;x=1 b.3.x=1;y=2", "b.4.y=2;x=1", "b.2.y=2;x=1 b.3.x=1;y=2 b.4.y=2;x=1"},
		{"b.1.x;x;y b.2.x;y;y b.3.y;x;x", "b.4.y;y;x", "b.2.x;y;y b.3.y;x;x b.4.y;y;x"},
		// Ahead of the last marker.
		{"b.1 b.2 b.3 |", "b.4", "b.1 b.2 b.3 | b.4"}, {"b.1 | b.2 b.3", "b.4", "b.1 | b.2 b.3 b.4"}, {"b.1 | b.2 b.3 b.4", "b.5", "b.1 | b.3 b.4 b.5"},
		{"b.1 b.2 | b.3 | b.4 b.5", "b.6", "b.1 b.2 | b.3 | b.4 b.5 b.6"}, {"b.1 | b.2 b.3 b.4 | b.5", "b.6", "b.1 | b.2 b.3 b.4 | b.5 b.6"},
		// A marker, where three are alike too.
		{"b.1 b.2 b.3", "|", "b.1 b.2 b.3 |"}, {"| | |", "|", "| | | |"}, {"| | |", "b.1", "| | | b.1"},
		// Onto more than three: the first goes, and that one alone.
		{"b.1 b.2 b.3 b.4", "b.5", "b.2 b.3 b.4 b.5"}, {"i.9 b.1 b.2 i.8 b.3 b.4 b.5", "b.6", "i.9 b.2 i.8 b.3 b.4 b.5 b.6"}, {"b.1 | b.2 b.3 b.4 b.5", "b.6", "b.1 | b.3 b.4 b.5 b.6"},
		// Ids that stand twice, and Ids below 0, which are no markers.
		{"b.1 b.1 b.1", "b.1", "b.1 b.1 b.1"}, {"b.2 b.1 b.1", "b.2", "b.1 b.1 b.2"}, {"b.-1 b.-2 b.-3", "b.-4", "b.-2 b.-3 b.-4"}, {"b.1 b.-1 b.2", "b.3", "b.-1 b.2 b.3"},
	} {
		told(t, "Push("+x.l+", "+x.m+")", Push(list(x.l), one(x.m)), x.want)
	}
}

// P7.1: a marker is one by its Id alone; an empty Name is a Name.
func TestPushMarkers(t *testing.T) {
	b := api.Mark{Name: "b", Attrs: attrs("x=1")}
	l := list("b.1.x=1 b.2.x=1 b.3.x=1")
	if got := Push(l, b); !sameList(got, append(list("b.1.x=1 b.2.x=1 b.3.x=1"), b)) {
		t.Errorf("a marker with a Name: %v", got)
	}
	if got := Push([]api.Mark{l[0], b, l[1], l[2]}, l[0]); !sameList(got, []api.Mark{l[0], b, l[1], l[2], l[0]}) {
		t.Errorf("behind a marker with a Name: %v", got)
	}
	if got := Push([]api.Mark{b, b, b}, l[0]); !sameList(got, []api.Mark{b, b, b, l[0]}) {
		t.Errorf("markers are none of three: %v", got)
	}
	told(t, "Push of an empty Name", Push(list(".1 b.2 .3 .4"), one(".5")), "b.2 .3 .4 .5")
}

// P7.2: by Push alone, whatever comes in whatever order, there are never more than three behind the last marker.
func TestThree(t *testing.T) {
	kinds := []api.Mark{one("b.1"), one("b.1.x;y"), one("b.1.y;x"), one("i.1"), {}}
	var grow func(l []api.Mark, left int)
	grow = func(l []api.Mark, left int) {
		checkThree(t, l)
		if left == 0 || t.Failed() {
			return
		}
		for _, m := range kinds {
			if m.Id != 0 {
				m.Id = left
			}
			grow(Push(l, m), left-1)
		}
	}
	grow(nil, 7)
	var l []api.Mark
	for i := range 300 {
		m := kinds[i*i%4]
		m.Id = i + 1
		l = Push(l, m)
		checkThree(t, l)
	}
	if len(l) < 3 {
		t.Errorf("%d are left", len(l))
	}
}

func checkThree(t *testing.T, l []api.Mark) {
	t.Helper()
	behind := saidBehind(l)
	for _, m := range behind {
		count := 0
		for _, other := range behind {
			if other.Name == m.Name && saidAlike(other.Attrs, m.Attrs) {
				count++
			}
		}
		if count > 3 {
			t.Errorf("%d like %v: %v", count, m, l)
			return
		}
	}
}

// P7.1: Last at the edges that the chapter names.
func TestLast(t *testing.T) {
	for _, x := range []struct {
		l, name string
		want    int
	}{
		{"a.1 | b.2", "a", -1}, {"a.1 | b.2", "b", 2}, {"a.1", "a", 0}, {"a.1 b.2 a.3 b.4", "a", 2}, {"a.1 b.2 a.3 b.4", "b", 3}, {"a.1 a.2 a.3", "a", 2},
		{"a.1 | a.2 b.3", "a", 2}, {"a.1 | a.2 a.3 b.4", "a", 3}, {"a.1 | a.2 | b.3", "a", -1}, {"a.1 |", "a", -1}, {"| a.1", "a", 1}, {"| a.1 |", "a", -1},
		{"a.1 b.2", "i", -1}, {"a.1", "A", -1}, {"A.1", "a", -1}, {"a.1", "", -1}, {"a.1 .2 b.3", "", 1}, {"| |", "", -1}, {"|", "a", -1},
		{"a.1.x=1 a.2 b.3", "a", 1}, {"a.-1 b.1", "a", 0}, {"", "a", -1}, {"", "", -1},
	} {
		if got := Last(list(x.l), x.name); got != x.want {
			t.Errorf("Last(%q, %q): %d, not %d", x.l, x.name, got, x.want)
		}
	}
	if Last([]api.Mark{{Id: 1, Name: "a"}, {Name: "a"}, {Id: 2, Name: "b"}}, "a") != -1 {
		t.Error("Last tells a marker that has a Name")
	}
}

// P7.1: Clear at the edges that the chapter names.
func TestClear(t *testing.T) {
	for _, x := range []struct{ l, want string }{
		{"a.1 | b.2", "a.1"}, {"a.1 b.2", ""}, {"a.1", ""}, {"", ""}, {"a.1 b.2 |", "a.1 b.2"}, {"|", ""}, {"| a.1", ""}, {"a.1 |", "a.1"},
		{"a.1 | b.2 | i.3", "a.1 | b.2"}, {"a.1 | |", "a.1 |"}, {"| |", "|"}, {"| a.1 | b.2", "| a.1"}, {"a.-1 | b.-2 i.3", "a.-1"}, {"a.1.x=1;y=2 | b.2", "a.1.x=1;y=2"},
	} {
		told(t, "Clear("+x.l+")", Clear(list(x.l)), x.want)
	}
	l := []api.Mark{one("a.1"), {Name: "b", Attrs: attrs("x=1")}, one("i.2")}
	told(t, "Clear up to a marker with a Name", Clear(l), "a.1")
}

// P7.1, P7.3: Find and Drop at the edges that the chapter names.
func TestFindDrop(t *testing.T) {
	for _, x := range []struct {
		l    string
		id   int
		at   int
		want string
	}{
		{"a.1 | b.2", 1, 0, "| b.2"}, {"a.1 | b.2", 2, 2, "a.1 |"}, {"a.1 | b.2", 0, 1, "a.1 b.2"}, {"a.1 | b.2", 3, -1, "a.1 | b.2"},
		{"a.1 b.2 i.1 b.2", 1, 0, "b.2 i.1 b.2"}, {"a.1 b.2 i.1 b.2", 2, 1, "a.1 i.1 b.2"}, {"a.1 | b.2 | i.3", 0, 1, "a.1 b.2 | i.3"}, {"| |", 0, 0, "|"}, {"|", 0, 0, ""},
		{"a.1 b.2", 0, -1, "a.1 b.2"}, {"a.1", 1, 0, ""}, {"a.1 b.2 i.3", 3, 2, "a.1 b.2"}, {"a.1.x=1 b.2.y=2", 2, 1, "a.1.x=1"},
		{"a.1 b.2", -1, -1, "a.1 b.2"}, {"a.1 b.-1 i.-1", -1, 1, "a.1 i.-1"}, {"a.1 | b.2", math.MaxInt, -1, "a.1 | b.2"}, {"a.1 | b.2", math.MinInt, -1, "a.1 | b.2"},
		{"", 0, -1, ""}, {"", 1, -1, ""}, {"", -1, -1, ""},
	} {
		if got := Find(list(x.l), x.id); got != x.at {
			t.Errorf("Find(%q, %d): %d, not %d", x.l, x.id, got, x.at)
		}
		told(t, "Drop("+x.l+", "+strconv.Itoa(x.id)+")", Drop(list(x.l), x.id), x.want)
	}
}

// P7.1, P7.3: Insert at the edges that the chapter names.
func TestInsert(t *testing.T) {
	for _, x := range []struct {
		l    string
		at   int
		m    string
		want string
	}{
		{"a.1 | b.2", 0, "i.9", "i.9 a.1 | b.2"}, {"a.1 | b.2", 1, "i.9", "a.1 i.9 | b.2"}, {"a.1 | b.2", 2, "i.9", "a.1 | i.9 b.2"}, {"a.1 | b.2", 3, "i.9", "a.1 | b.2 i.9"},
		{"a.1 | b.2", -1, "i.9", "i.9 a.1 | b.2"}, {"a.1 | b.2", math.MinInt, "i.9", "i.9 a.1 | b.2"}, {"a.1 | b.2", 4, "i.9", "a.1 | b.2 i.9"}, {"a.1 | b.2", math.MaxInt, "i.9", "a.1 | b.2 i.9"},
		{"", 0, "i.9", "i.9"}, {"", -5, "i.9", "i.9"}, {"", 5, "i.9", "i.9"}, {"", 0, "|", "|"}, {"a.1", 1, "|", "a.1 |"}, {"a.1", 0, "|", "| a.1"},
		{"a.1 b.2", 1, "i.9.x=1;y=2", "a.1 i.9.x=1;y=2 b.2"}, {"a.1 b.2", 1, "a.1", "a.1 a.1 b.2"}, {"a.1", 0, "i.-9", "i.-9 a.1"},
		// None goes where a fourth is alike: that is Push alone.
		{"b.1 b.2 b.3", 1, "b.4", "b.1 b.4 b.2 b.3"}, {"b.1 b.2 b.3", 3, "b.4", "b.1 b.2 b.3 b.4"},
	} {
		told(t, "Insert("+x.l+", "+strconv.Itoa(x.at)+", "+x.m+")", Insert(list(x.l), x.at, one(x.m)), x.want)
	}
}

// P7.1: Renew at the edges that the chapter names.
func TestRenew(t *testing.T) {
	for _, x := range []struct {
		l    string
		open []int
		want int
	}{
		{"a.1 | b.2", []int{2}, 3}, {"a.1 | b.2", nil, 2}, {"a.1 | b.2", []int{1}, 2}, {"a.1 | b.2", []int{0}, 2}, {"a.1 |", nil, 2}, {"a.1 |", []int{1}, 2}, {"|", nil, 1}, {"| a.1 |", nil, 3},
		{"a.1 b.2 i.3", nil, 0}, {"a.1 b.2 i.3", []int{}, 0}, {"a.1 b.2 i.3", []int{4, 5, 0, -1}, 0}, {"a.1 b.2 i.3", []int{3}, 3}, {"a.1 b.2 i.3", []int{2}, 2}, {"a.1 b.2 i.3", []int{1}, 1},
		{"a.1 b.2 i.3", []int{1, 2}, 2}, {"a.1 b.2 i.3", []int{2, 1}, 2}, {"a.1 b.2 i.3", []int{7, 1, 9}, 1}, {"a.1 b.2 i.3", []int{1, 2, 3}, 3}, {"a.1 b.2 i.3", []int{2, 2}, 2},
		{"a.1 | b.2 i.3 u.4", []int{3}, 4}, {"a.1 | b.2 i.3 | u.4 s.5", []int{1, 2, 3}, 5}, {"a.1 b.2 a.1 i.3", []int{1}, 3}, {"a.-1 b.2", []int{-1}, 1}, {"a.-1 b.2", []int{0, 1}, 0},
		{"", nil, 0}, {"", []int{0}, 0}, {"", []int{1, 2}, 0},
	} {
		if got := Renew(list(x.l), x.open); got != x.want {
			t.Errorf("Renew(%q, %v): %d, not %d", x.l, x.open, got, x.want)
		}
	}
	if Renew([]api.Mark{one("a.1"), {Name: "b", Attrs: attrs("x=1")}, one("i.2")}, nil) != 2 {
		t.Error("Renew behind a marker with a Name")
	}
}

// P7.1: the chapter's examples.
func TestExamples(t *testing.T) {
	var l []api.Mark
	for id := 1; id <= 4; id++ {
		l = Push(l, api.Mark{Id: id, Name: "b"})
	}
	told(t, "a fourth of b", l, "b.2 b.3 b.4")
	l = list("a.1 | b.2")
	if Last(l, "a") != -1 || Renew(l, []int{2}) != 3 {
		t.Error("Last, Renew")
	}
	told(t, "Clear", Clear(l), "a.1")
}

// P7.1: an empty list at every call, nil or not, with room behind it or not.
func TestEmpty(t *testing.T) {
	for _, l := range [][]api.Mark{nil, {}, list("a.1 | b.2")[:0]} {
		if Last(l, "a") != -1 || Last(l, "") != -1 || Find(l, 0) != -1 || Find(l, 1) != -1 || Renew(l, nil) != 0 || Renew(l, []int{0, 1}) != 0 {
			t.Error("a place in an empty list")
		}
		if len(Clear(l)) != 0 || len(Drop(l, 0)) != 0 || len(Drop(l, 1)) != 0 {
			t.Error("something of an empty list")
		}
		told(t, "Push", Push(l, one("i.9")), "i.9")
		told(t, "Push of a marker", Push(l, api.Mark{}), "|")
		for _, at := range []int{math.MinInt, -1, 0, 1, math.MaxInt} {
			told(t, "Insert", Insert(l, at, one("i.9")), "i.9")
		}
	}
}

// R1: long lists, of entries and of attributes.
func TestLong(t *testing.T) {
	l := make([]api.Mark, 1<<17)
	for i := range l {
		l[i] = api.Mark{Id: i + 1, Name: "b"}
	}
	if Last(l, "b") != len(l)-1 || Last(l, "a") != -1 || Find(l, len(l)) != len(l)-1 || Renew(l, []int{0, -1}) != 0 || len(Clear(l)) != 0 {
		t.Error("a place in a long list")
	}
	got := Push(l, one("b.-1"))
	if len(got) != len(l) || got[0].Id != 2 || got[len(got)-1].Id != -1 || len(Push(l, one("i.-1"))) != len(l)+1 || len(Drop(l, 5)) != len(l)-1 || len(Insert(l, 5, one("i.-1"))) != len(l)+1 {
		t.Error("a long list, grown or less")
	}
	many := make([]api.Attr, 1<<17)
	for i := range many {
		many[i] = api.Attr{Name: strconv.Itoa(i), Value: strings.Repeat("x", i%9)}
	}
	back := slices.Clone(many)
	slices.Reverse(back)
	if !Alike(many, back) {
		t.Error("long lists that are alike")
	}
	back[77].Value += "y"
	if Alike(many, back) {
		t.Error("long lists that are not alike")
	}
}
