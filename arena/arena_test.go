package arena

import (
	"math"
	"reflect"
	"slices"
	"strconv"
	"strings"
	"testing"

	"marginalia/api"
)

const (
	ok      = api.OK
	errArg  = api.ErrArg
	errNone = api.ErrNone
)

// shot: all that an arena tells.
func shot(x *Tree) string {
	var b strings.Builder
	for n := range x.Len() {
		b.WriteString(strconv.Itoa(x.Parent(n)) + ":" + short(x, n) + ";")
	}
	return b.String()
}

// short: a node with all that is within it, and each one's number.
func short(x *Tree, n int) string {
	v := x.Value(n)
	s := strconv.Itoa(n) + [...]string{"root", "element", "text", "comment"}[v.Kind] + strconv.Itoa(int(v.Space)) + v.Name + strconv.Quote(v.Text)
	for _, a := range v.Attrs {
		s += " " + a.Name + "=" + a.Value
	}
	for _, k := range x.Kids(n) {
		s += "(" + short(x, k) + ")"
	}
	return s
}

// sample: the root (0) with the elements 1 and 2, and the text 3; in 1 the element 4 with the comment 5; of no parent the element 6 with the text 7, the text 8, the comment 9 and the element 10.
func sample(t *testing.T) *Tree {
	t.Helper()
	x := New()
	x.Element(api.SpaceHtml, "a", []api.Attr{{Name: "k", Value: "v"}, {Name: "l", Value: ""}})
	x.Element(api.SpaceSvg, "b", nil)
	x.Text("three")
	x.Element(api.SpaceMath, "c", nil)
	x.Comment("five")
	x.Element(api.SpaceHtml, "d", nil)
	x.Text("")
	x.Text("eight")
	x.Comment("")
	x.Element(api.SpaceHtml, "", nil)
	for _, p := range [][2]int{{0, 1}, {0, 2}, {0, 3}, {1, 4}, {4, 5}, {6, 7}} {
		if e := x.Append(p[0], p[1]); e != ok {
			t.Fatalf("Append(%d, %d): %d", p[0], p[1], e)
		}
	}
	if x.Len() != 11 {
		t.Fatalf("Len: %d", x.Len())
	}
	return x
}

func checkKids(t *testing.T, x *Tree, n int, want ...int) {
	t.Helper()
	if got := x.Kids(n); !slices.Equal(got, want) {
		t.Errorf("Kids(%d): %v, not %v", n, got, want)
	}
	for _, k := range want {
		if x.Parent(k) != n {
			t.Errorf("Parent(%d): %d, not %d", k, x.Parent(k), n)
		}
	}
}

// refused: a call on a sample that tells an error and changes nothing.
func refused(t *testing.T, what string, want api.Errno, f func(x *Tree) api.Errno) {
	t.Helper()
	x := sample(t)
	ahead := shot(x)
	if got := f(x); got != want {
		t.Errorf("%s: %d, not %d", what, got, want)
	}
	if got := shot(x); got != ahead {
		t.Errorf("%s changed\n%s\nto\n%s", what, ahead, got)
	}
}

type pair struct {
	a, b int
	want api.Errno
}

func refusedPairs(t *testing.T, name string, f func(x *Tree, a, b int) api.Errno, l []pair) {
	t.Helper()
	for _, p := range l {
		refused(t, name+"("+strconv.Itoa(p.a)+", "+strconv.Itoa(p.b)+")", p.want, func(x *Tree) api.Errno { return f(x, p.a, p.b) })
	}
}

// nowhere: numbers that no node of the sample has.
var nowhere = []int{-1, -2, -11, math.MinInt, math.MinInt32, 11, 12, api.MaxNodes, math.MaxInt32, math.MaxInt}

// P5.1: the chapter's example.
func TestExample(t *testing.T) {
	x := New()
	a, b := x.Element(api.SpaceHtml, "a", nil), x.Element(api.SpaceHtml, "b", nil)
	if a != 1 || b != 2 || x.Append(0, 1) != ok || x.Append(1, 2) != ok || x.Before(1, 2) != ok {
		t.Errorf("%d %d %s", a, b, shot(x))
	}
	checkKids(t, x, 0, 2, 1)
	if e := x.Append(1, 0); e != errArg {
		t.Errorf("Append(1, 0): %d", e)
	}
	checkKids(t, x, 0, 2, 1)
}

// P5.1: an arena begins with its root, and each has its own.
func TestNew(t *testing.T) {
	x, y := New(), New()
	if x.Len() != 1 || x.Parent(0) != -1 || len(x.Kids(0)) != 0 || !alike(x.Value(0), api.Node{Kind: api.NodeRoot}) {
		t.Errorf("New: %s", shot(x))
	}
	x.Append(0, x.Text("x"))
	if y.Len() != 1 || len(y.Kids(0)) != 0 {
		t.Errorf("another arena: %s", shot(y))
	}
}

// P5.1: each node more is the next number, of no parent, with what is its kind's and nothing else.
func TestMore(t *testing.T) {
	x := New()
	attrs := []api.Attr{{Name: "k", Value: "v"}, {Name: "k", Value: "w"}, {}}
	got := []int{
		x.Element(api.SpaceHtml, "a", attrs), x.Element(api.SpaceSvg, "", nil), x.Element(api.SpaceMath, "B\xFF\x00", []api.Attr{}), x.Element(-7, "c", nil),
		x.Text("t"), x.Text(""), x.Comment("c\x00"), x.Comment(""), x.Copy(1),
	}
	want := []api.Node{
		{Kind: api.NodeElement, Name: "a", Attrs: attrs}, {Kind: api.NodeElement, Space: api.SpaceSvg}, {Kind: api.NodeElement, Space: api.SpaceMath, Name: "B\xFF\x00"}, {Kind: api.NodeElement, Space: -7, Name: "c"},
		{Kind: api.NodeText, Text: "t"}, {Kind: api.NodeText}, {Kind: api.NodeComment, Text: "c\x00"}, {Kind: api.NodeComment}, {Kind: api.NodeElement, Name: "a", Attrs: attrs},
	}
	for i, n := range got {
		if n != i+1 || x.Parent(n) != -1 || len(x.Kids(n)) != 0 || !alike(x.Value(n), want[i]) {
			t.Errorf("the node %d: %d, parent %d, kids %v, %v, not %v", i+1, n, x.Parent(n), x.Kids(n), x.Value(n), want[i])
		}
	}
	if x.Len() != 10 || len(x.Kids(0)) != 0 {
		t.Errorf("Len %d, the root's kids %v", x.Len(), x.Kids(0))
	}
}

// P5.1: MaxNodes nodes, the root counted, and no more of any kind; all else goes on.
func TestMaxNodes(t *testing.T) {
	for last, more := range []func(x *Tree) int{
		func(x *Tree) int { return x.Element(api.SpaceHtml, "a", []api.Attr{{Name: "k"}}) },
		func(x *Tree) int { return x.Text("t") },
		func(x *Tree) int { return x.Comment("c") },
		func(x *Tree) int { return x.Copy(1) },
	} {
		x := New()
		x.Element(api.SpaceHtml, "first", nil)
		for n := 2; n < 1999; n++ {
			if got := x.Text("t"); got != n {
				t.Fatalf("the node %d is %d", n, got)
			}
		}
		if got := more(x); got != 1999 || x.Len() != 2000 {
			t.Fatalf("%d: the last one is %d of %d", last, got, x.Len())
		}
		ahead := shot(x)
		for range 2 {
			for i, got := range []int{x.Element(api.SpaceSvg, "x", nil), x.Text("x"), x.Comment("x"), x.Copy(1), x.Copy(0), x.Copy(2000)} {
				if got != -1 {
					t.Errorf("%d: one too many (%d) is %d", last, i, got)
				}
			}
		}
		if shot(x) != ahead || x.Len() != 2000 || x.Parent(2000) != -1 || x.Append(0, 2000) != errNone {
			t.Errorf("%d: one too many changed something", last)
		}
		if x.Append(0, 1999) != ok || x.Append(1, 1998) != ok || x.Before(1999, 1) != ok || x.Remove(1999) != ok || x.Add(1998, "u") != ok || x.Move(1, 0) != ok {
			t.Errorf("%d: a full arena refuses", last)
		}
		checkKids(t, x, 0, 1, 1998)
		// What is taken out is a node still: it makes no room.
		if x.Text("x") != -1 || x.Len() != 2000 || x.Value(1998).Text != "tu" {
			t.Errorf("%d: room behind Remove", last)
		}
	}
}

// P5.1: what Copy takes: the element's own, not its kids, nor its parent; and of what it makes nothing.
func TestCopy(t *testing.T) {
	x := sample(t)
	for _, n := range []int{1, 2, 4, 6, 10} {
		ahead, len0 := shot(x), x.Len()
		v := x.Value(n)
		v.Kids = nil
		got := x.Copy(n)
		if got != len0 || x.Len() != len0+1 || !alike(x.Value(got), v) || x.Parent(got) != -1 || len(x.Kids(got)) != 0 {
			t.Errorf("Copy(%d): %d, %s", n, got, shot(x))
		}
		if !strings.HasPrefix(shot(x), ahead) {
			t.Errorf("Copy(%d) changed\n%s\nto\n%s", n, ahead, shot(x))
		}
	}
	// A copy of a copy, and each with kids of its own.
	c := x.Copy(x.Copy(1))
	if x.Append(c, 3) != ok || x.Value(c).Attrs[0].Value != "v" {
		t.Errorf("a copy of a copy: %s", short(x, c))
	}
	checkKids(t, x, c, 3)
	checkKids(t, x, 1, 4)
	for _, n := range append([]int{0, 3, 5, 7, 8, 9}, nowhere...) {
		x := sample(t)
		ahead := shot(x)
		if got := x.Copy(n); got != -1 || shot(x) != ahead {
			t.Errorf("Copy(%d): %d, %s", n, got, shot(x))
		}
	}
}

// P5.1: Add to a text, and to all that is none.
func TestAdd(t *testing.T) {
	x := sample(t)
	for _, s := range []string{"", "x", "\x00\xFF", "", "\u00E4"} {
		if e := x.Add(3, s); e != ok {
			t.Errorf("Add(3, %q): %d", s, e)
		}
	}
	if x.Add(7, "a") != ok || x.Add(7, "b") != ok || x.Add(8, "") != ok {
		t.Error("Add to other texts")
	}
	for n, want := range map[int]string{3: "threex\x00\xFF\u00E4", 7: "ab", 8: "eight", 5: "five", 9: ""} {
		if got := x.Value(n).Text; got != want {
			t.Errorf("the text %d: %q, not %q", n, got, want)
		}
	}
	checkKids(t, x, 0, 1, 2, 3)
	for _, n := range []int{0, 1, 2, 4, 5, 6, 9, 10} {
		refused(t, "Add to "+strconv.Itoa(n), errArg, func(x *Tree) api.Errno { return x.Add(n, "x") })
		refused(t, "Add of nothing to "+strconv.Itoa(n), errArg, func(x *Tree) api.Errno { return x.Add(n, "") })
	}
	for _, n := range nowhere {
		refused(t, "Add to "+strconv.Itoa(n), errNone, func(x *Tree) api.Errno { return x.Add(n, "x") })
	}
}

// P5.1: two texts of one beginning are two texts.
func TestAddApart(t *testing.T) {
	x := New()
	a, b := x.Text("same"), x.Text("same")
	x.Add(a, "1")
	told := x.Value(a)
	x.Add(a, "2")
	x.Add(b, "3")
	if told.Text != "same1" || x.Value(a).Text != "same12" || x.Value(b).Text != "same3" {
		t.Errorf("%q, %q, %q", told.Text, x.Value(a).Text, x.Value(b).Text)
	}
}

// P5.1: Append, and where it leads from each place.
func TestAppend(t *testing.T) {
	x := sample(t)
	// A kid to where it is already becomes the last one.
	for _, c := range []struct {
		child int
		want  []int
	}{{1, []int{2, 3, 1}}, {3, []int{2, 1, 3}}, {3, []int{2, 1, 3}}, {1, []int{2, 3, 1}}, {2, []int{3, 1, 2}}} {
		if e := x.Append(0, c.child); e != ok {
			t.Errorf("Append(0, %d): %d", c.child, e)
		}
		checkKids(t, x, 0, c.want...)
	}
	// An only kid stays.
	if x.Append(1, 4) != ok {
		t.Error("Append(1, 4)")
	}
	checkKids(t, x, 1, 4)
	// From a parent to another one, with what is within it.
	if x.Append(2, 1) != ok {
		t.Error("Append(2, 1)")
	}
	checkKids(t, x, 0, 3, 2)
	checkKids(t, x, 2, 1)
	checkKids(t, x, 1, 4)
	checkKids(t, x, 4, 5)
	// Up to what it lies within, and into what has no parent.
	if x.Append(2, 5) != ok || x.Append(10, 2) != ok {
		t.Errorf("Append: %s", shot(x))
	}
	checkKids(t, x, 2, 1, 5)
	checkKids(t, x, 10, 2)
	checkKids(t, x, 4)
	checkPlaces(t, "Append", x)
}

// P5.1: what Append refuses.
func TestAppendRefused(t *testing.T) {
	refusedPairs(t, "Append", (*Tree).Append, []pair{
		{0, 0, errArg}, {1, 0, errArg}, {6, 0, errArg}, {3, 0, errArg}, // the root
		{1, 1, errArg}, {6, 6, errArg}, {3, 3, errArg}, {9, 9, errArg}, // itself
		{4, 1, errArg}, {5, 1, errArg}, {5, 4, errArg}, {7, 6, errArg}, // what lies within it
		{3, 1, errArg}, {3, 8, errArg}, {7, 1, errArg}, {8, 10, errArg}, // a text
		{5, 2, errArg}, {9, 1, errArg}, {9, 8, errArg}, // a comment
		{4, 11, errNone}, {11, 4, errNone}, {3, 11, errNone}, {9, -1, errNone}, {11, 0, errNone}, {-1, 0, errNone}, {11, 11, errNone}, {-1, -1, errNone}, {-1, 11, errNone},
	})
	for _, n := range nowhere {
		refusedPairs(t, "Append", (*Tree).Append, []pair{{0, n, errNone}, {n, 1, errNone}, {n, 0, errNone}, {3, n, errNone}, {5, n, errNone}, {n, n, errNone}})
	}
}

// P5.1: Before, and where it leads from each place.
func TestBefore(t *testing.T) {
	for _, c := range []struct {
		ref, child int
		want       []int
	}{
		{1, 2, []int{2, 1, 3}}, {2, 3, []int{1, 3, 2}}, {3, 2, []int{1, 2, 3}}, // the child right behind ref, and right ahead of it
		{2, 1, []int{1, 2, 3}}, {3, 1, []int{2, 1, 3}}, {1, 3, []int{3, 1, 2}},
		{1, 8, []int{8, 1, 2, 3}}, {2, 9, []int{1, 9, 2, 3}}, {3, 10, []int{1, 2, 10, 3}}, {3, 6, []int{1, 2, 6, 3}}, // of no parent
		{1, 4, []int{4, 1, 2, 3}}, {1, 5, []int{5, 1, 2, 3}}, {2, 5, []int{1, 5, 2, 3}}, {3, 7, []int{1, 2, 7, 3}}, // of another one, or of ref itself
	} {
		x := sample(t)
		was := x.Parent(c.child)
		if e := x.Before(c.ref, c.child); e != ok {
			t.Errorf("Before(%d, %d): %d", c.ref, c.child, e)
		}
		checkKids(t, x, 0, c.want...)
		if was > 0 && len(x.Kids(was)) != 0 {
			t.Errorf("Before(%d, %d): still a kid of %d", c.ref, c.child, was)
		}
		checkPlaces(t, "Before", x)
	}
	// Deeper ones: ahead of a comment, and of a text whose parent has none.
	x := sample(t)
	if x.Before(5, 2) != ok || x.Before(7, 1) != ok {
		t.Errorf("Before: %s", shot(x))
	}
	checkKids(t, x, 0, 3)
	checkKids(t, x, 4, 2, 5)
	checkKids(t, x, 6, 1, 7)
}

// P5.1: what Before refuses.
func TestBeforeRefused(t *testing.T) {
	refusedPairs(t, "Before", (*Tree).Before, []pair{
		{0, 1, errArg}, {0, 8, errArg}, {0, 0, errArg}, // the root
		{6, 1, errArg}, {8, 1, errArg}, {9, 8, errArg}, {10, 10, errArg}, {6, 7, errArg}, // ref has no parent
		{1, 0, errArg}, {5, 0, errArg}, {7, 0, errArg}, {8, 0, errArg}, // the child is the root
		{1, 1, errArg}, {3, 3, errArg}, {5, 5, errArg}, // itself
		{4, 1, errArg}, {5, 1, errArg}, {5, 4, errArg}, {7, 6, errArg}, // a node within the child
		{1, 11, errNone}, {11, 1, errNone}, {0, 11, errNone}, {8, -1, errNone}, {11, 0, errNone}, {-1, 0, errNone}, {11, 11, errNone}, {-1, -1, errNone},
	})
	for _, n := range nowhere {
		refusedPairs(t, "Before", (*Tree).Before, []pair{{1, n, errNone}, {n, 1, errNone}, {0, n, errNone}, {n, 0, errNone}, {6, n, errNone}, {n, n, errNone}})
	}
}

// P5.1: Remove, and what it refuses.
func TestRemove(t *testing.T) {
	for n, left := range map[int][]int{1: {2, 3}, 2: {1, 3}, 3: {1, 2}} {
		x := sample(t)
		within := short(x, n)
		if e := x.Remove(n); e != ok || x.Parent(n) != -1 || short(x, n) != within || x.Len() != 11 {
			t.Errorf("Remove(%d): %d, %s", n, e, shot(x))
		}
		checkKids(t, x, 0, left...)
		checkPlaces(t, "Remove", x)
		ahead := shot(x)
		if e := x.Remove(n); e != errArg || shot(x) != ahead {
			t.Errorf("Remove(%d) again: %d", n, e)
		}
		if x.Append(0, n) != ok {
			t.Errorf("Append(0, %d)", n)
		}
		checkKids(t, x, 0, append(left, n)...)
	}
	for _, n := range []int{0, 6, 8, 9, 10} {
		refused(t, "Remove("+strconv.Itoa(n)+")", errArg, func(x *Tree) api.Errno { return x.Remove(n) })
	}
	for _, n := range nowhere {
		refused(t, "Remove("+strconv.Itoa(n)+")", errNone, func(x *Tree) api.Errno { return x.Remove(n) })
	}
}

// P5.1: Move, and where it leads.
func TestMove(t *testing.T) {
	x := sample(t)
	within := short(x, 1)
	// From the root to what does not lie within it, behind what is there.
	if e := x.Move(0, 6); e != ok {
		t.Errorf("Move(0, 6): %d", e)
	}
	checkKids(t, x, 0)
	checkKids(t, x, 6, 7, 1, 2, 3)
	if short(x, 1) != within {
		t.Errorf("moved: %s, not %s", short(x, 1), within)
	}
	// To the root, and up to what from lies within.
	if x.Move(6, 0) != ok || x.Move(4, 1) != ok || x.Move(1, 0) != ok {
		t.Errorf("Move: %s", shot(x))
	}
	checkKids(t, x, 0, 7, 1, 2, 3, 4, 5)
	checkKids(t, x, 1)
	checkKids(t, x, 4)
	checkKids(t, x, 6)
	checkPlaces(t, "Move", x)
	// What has no kids has none to move, be it a text or a comment.
	ahead := shot(x)
	for _, from := range []int{1, 2, 3, 5, 6, 8, 9, 10} {
		if e := x.Move(from, 0); e != ok || shot(x) != ahead {
			t.Errorf("Move(%d, 0): %d, %s", from, e, shot(x))
		}
	}
}

// P5.1: what was moved from and to goes on apart.
func TestMoveApart(t *testing.T) {
	x := New()
	a, b := x.Element(api.SpaceHtml, "a", nil), x.Element(api.SpaceHtml, "b", nil)
	for range 5 {
		x.Append(a, x.Text("t"))
	}
	if x.Move(a, b) != ok || x.Append(a, x.Text("u")) != ok || x.Append(a, x.Text("v")) != ok || x.Append(b, x.Text("w")) != ok || x.Remove(3) != ok {
		t.Errorf("Move: %s", shot(x))
	}
	checkKids(t, x, a, 8, 9)
	checkKids(t, x, b, 4, 5, 6, 7, 10)
}

// P5.1: what Move refuses.
func TestMoveRefused(t *testing.T) {
	refusedPairs(t, "Move", (*Tree).Move, []pair{
		{0, 0, errArg}, {1, 1, errArg}, {2, 2, errArg}, {10, 10, errArg}, {3, 3, errArg}, // itself
		{0, 1, errArg}, {0, 4, errArg}, {1, 4, errArg}, // what lies within it
		{1, 3, errArg}, {1, 8, errArg}, {6, 7, errArg}, {2, 3, errArg}, // a text
		{1, 9, errArg}, {0, 9, errArg}, {0, 5, errArg}, {2, 5, errArg}, // a comment
		{1, 11, errNone}, {11, 1, errNone}, {11, 3, errNone}, {-1, 9, errNone}, {11, 11, errNone}, {-1, -1, errNone},
	})
	for _, n := range nowhere {
		refusedPairs(t, "Move", (*Tree).Move, []pair{{1, n, errNone}, {n, 1, errNone}, {0, n, errNone}, {n, 0, errNone}, {n, 3, errNone}, {n, 9, errNone}, {n, n, errNone}})
	}
}

// P5.1: what is told of each node, and of numbers that are none.
func TestTold(t *testing.T) {
	x := sample(t)
	for n, want := range []int{-1, 0, 0, 0, 1, 4, -1, 6, -1, -1, -1} {
		if got := x.Parent(n); got != want {
			t.Errorf("Parent(%d): %d, not %d", n, got, want)
		}
	}
	want := api.Node{Kids: []api.Node{
		{Kind: api.NodeElement, Name: "a", Attrs: []api.Attr{{Name: "k", Value: "v"}, {Name: "l", Value: ""}}, Kids: []api.Node{{Kind: api.NodeElement, Space: api.SpaceMath, Name: "c", Kids: []api.Node{{Kind: api.NodeComment, Text: "five"}}}}},
		{Kind: api.NodeElement, Space: api.SpaceSvg, Name: "b"},
		{Kind: api.NodeText, Text: "three"},
	}}
	if got := x.Value(0); !alike(got, want) {
		t.Errorf("Value(0): %v, not %v", got, want)
	}
	if got := x.Value(1); !alike(got, want.Kids[0]) {
		t.Errorf("Value(1): %v, not %v", got, want.Kids[0])
	}
	for _, n := range nowhere {
		if x.Parent(n) != -1 || len(x.Kids(n)) != 0 || !reflect.DeepEqual(x.Value(n), api.Node{}) {
			t.Errorf("of %d: %d, %v, %v", n, x.Parent(n), x.Kids(n), x.Value(n))
		}
	}
}

// R4: what is handed to Element is neither changed nor kept, nor what lies behind its end.
func TestHandedIn(t *testing.T) {
	room := []api.Attr{{Name: "a", Value: "1"}, {Name: "b", Value: "2"}, {Name: "c", Value: "3"}}
	x := New()
	n, empty := x.Element(api.SpaceHtml, "x", room[:2]), x.Element(api.SpaceHtml, "y", room[:0])
	c := x.Copy(n)
	x.Value(n)
	if !slices.Equal(room, []api.Attr{{Name: "a", Value: "1"}, {Name: "b", Value: "2"}, {Name: "c", Value: "3"}}) {
		t.Errorf("changed: %v", room)
	}
	clear(room)
	for _, m := range []int{n, c} {
		if got := x.Value(m).Attrs; !slices.Equal(got, []api.Attr{{Name: "a", Value: "1"}, {Name: "b", Value: "2"}}) {
			t.Errorf("kept: %v", got)
		}
	}
	if got := x.Value(empty).Attrs; len(got) != 0 || cap(got) != 0 {
		t.Errorf("an empty list's room: %d, %d", len(got), cap(got))
	}
}

// spoil: changes all of a node's lists, their spare room too.
func spoil(v api.Node) {
	for i := range v.Kids {
		spoil(v.Kids[i])
	}
	kids, attrs := v.Kids[:cap(v.Kids)], v.Attrs[:cap(v.Attrs)]
	for i := range kids {
		kids[i] = api.Node{Name: "spoilt"}
	}
	for i := range attrs {
		attrs[i] = api.Attr{Name: "spoilt"}
	}
}

// R4: what Kids and Value tell is the caller's own, its spare room too.
func TestToldIsOwn(t *testing.T) {
	x := sample(t)
	c := x.Copy(1)
	for range 5 {
		x.Append(c, x.Copy(1))
	}
	x.Append(0, c)
	ahead := shot(x)
	for n := range x.Len() {
		kids := x.Kids(n)
		kids = kids[:cap(kids)]
		for i := range kids {
			kids[i] = -9
		}
		spoil(x.Value(n))
		if got := shot(x); got != ahead {
			t.Fatalf("spoilt by what is told of %d:\n%s\nnot\n%s", n, got, ahead)
		}
	}
	// And it stays as it is told, whatever becomes of the arena.
	kids, value, want := x.Kids(0), x.Value(0), x.Value(0)
	told := slices.Clone(kids)
	x.Move(c, 0)
	x.Remove(1)
	x.Add(3, "more")
	x.Before(2, 3)
	if !slices.Equal(kids, told) || !reflect.DeepEqual(value, want) {
		t.Errorf("what was told: %v, %v", kids, value)
	}
}

// R4: no two lists of one answer share any memory: what is put behind one is in no other.
func TestListsApart(t *testing.T) {
	x := sample(t)
	for range 9 {
		p := x.Copy(1)
		x.Append(0, p)
		for range 3 {
			x.Append(p, x.Copy(1))
		}
	}
	v, want := x.Value(0), x.Value(0)
	var grow func(v api.Node)
	grow = func(v api.Node) {
		for _, k := range v.Kids {
			grow(k)
		}
		_ = append(v.Kids, api.Node{Name: "more"}, api.Node{Name: "more"})
		_ = append(v.Attrs, api.Attr{Name: "more"}, api.Attr{Name: "more"})
	}
	grow(v)
	if !alike(v, want) {
		t.Errorf("lists share: %v, not %v", v, want)
	}
}

// P5.1: on a nil arena nothing is there, at every call; nor on one that New did not make.
func TestNil(t *testing.T) {
	for _, x := range []*Tree{nil, {}} {
		attrs := []api.Attr{{Name: "a"}}
		for range 2 {
			for i, got := range []int{x.Element(api.SpaceHtml, "a", attrs), x.Text("t"), x.Comment("c")} {
				if got != -1 {
					t.Errorf("a node more (%d): %d", i, got)
				}
			}
			for _, n := range append([]int{0, 1, 2}, nowhere...) {
				if x.Copy(n) != -1 || x.Parent(n) != -1 || len(x.Kids(n)) != 0 || !reflect.DeepEqual(x.Value(n), api.Node{}) || x.Len() != 0 {
					t.Errorf("of %d: %d, %d, %v, %v, %d", n, x.Copy(n), x.Parent(n), x.Kids(n), x.Value(n), x.Len())
				}
				for i, e := range []api.Errno{x.Add(n, "s"), x.Append(0, n), x.Append(n, n), x.Before(0, n), x.Before(n, n), x.Remove(n), x.Move(0, n), x.Move(n, n)} {
					if e != errNone {
						t.Errorf("the call %d of %d: %d", i, n, e)
					}
				}
			}
		}
	}
}

// P5.1, P5.2: as deep as it goes: each in the one ahead.
func TestDeep(t *testing.T) {
	x := New()
	for n := 1; n < api.MaxNodes; n++ {
		if x.Element(api.SpaceHtml, strconv.Itoa(n), nil) != n || x.Append(n-1, n) != ok {
			t.Fatalf("the node %d", n)
		}
	}
	v := x.Value(0)
	for n := 1; n < api.MaxNodes; n++ {
		if len(v.Kids) != 1 || v.Kids[0].Name != strconv.Itoa(n) {
			t.Fatalf("the node %d: %v", n, v.Kids)
		}
		v = v.Kids[0]
	}
	last := api.MaxNodes - 1
	if x.Append(last, 1) != errArg || x.Before(last, 1) != errArg || x.Move(1, last) != errArg || x.Append(last, last) != errArg {
		t.Error("within the deepest")
	}
	if x.Append(0, last) != ok || x.Append(last, 1) != ok {
		t.Error("out of the deepest, and around it")
	}
	checkKids(t, x, 0, last)
	checkKids(t, x, last, 1)
	checkPlaces(t, "deep", x)
}

// P5.2, P5.3: as wide as it goes: all in the root, turned round one by one, and moved.
func TestWide(t *testing.T) {
	x := New()
	e := x.Element(api.SpaceHtml, "e", nil)
	for n := 2; n < api.MaxNodes; n++ {
		if x.Text(strconv.Itoa(n)) != n || x.Append(0, n) != ok {
			t.Fatalf("the node %d", n)
		}
	}
	first := 2
	for n := 3; n < api.MaxNodes; n++ {
		if x.Before(first, n) != ok {
			t.Fatalf("Before(%d, %d)", first, n)
		}
		first = n
	}
	var want []int
	for n := api.MaxNodes - 1; n >= 2; n-- {
		want = append(want, n)
	}
	checkKids(t, x, 0, want...)
	if x.Move(0, e) != ok || x.Append(0, e) != ok {
		t.Error("Move(0, e)")
	}
	checkKids(t, x, e, want...)
	checkKids(t, x, 0, e)
	for i, k := range x.Value(0).Kids[0].Kids {
		if k.Kind != api.NodeText || k.Text != strconv.Itoa(want[i]) {
			t.Fatalf("the kid %d: %v", i, k)
		}
	}
	checkPlaces(t, "wide", x)
}

// R5: one script is told alike twice.
func TestAlikeTwice(t *testing.T) {
	if a, b := shot(sample(t)), shot(sample(t)); a != b {
		t.Errorf("%s\nand\n%s", a, b)
	}
}
