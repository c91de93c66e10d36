package arena

import (
	"slices"
	"strconv"
	"strings"
	"testing"

	"marginalia/api"
)

// A second reading of the chapter: one list of all nodes by where they stand, each with its parent; a node's kids are those of that parent, in the list's order.

type saidNode struct {
	value  api.Node // without its kids
	parent int
}

type said struct {
	nodes []saidNode
	order []int
}

func newSaid() *said {
	return &said{nodes: []saidNode{{parent: -1}}, order: []int{0}}
}

func (s *said) isThere(n int) bool { return n >= 0 && n < len(s.nodes) }

func (s *said) more(v api.Node) int {
	if len(s.nodes) == 2000 {
		return -1
	}
	s.nodes = append(s.nodes, saidNode{v, -1})
	s.order = append(s.order, len(s.nodes)-1)
	return len(s.nodes) - 1
}

func (s *said) copyOf(n int) int {
	if !s.isThere(n) || s.nodes[n].value.Kind != api.NodeElement {
		return -1
	}
	return s.more(s.nodes[n].value)
}

func (s *said) liesWithin(n, other int) bool {
	return n == other || s.nodes[n].parent >= 0 && s.liesWithin(s.nodes[n].parent, other)
}

func (s *said) holds(n int) bool {
	return s.nodes[n].value.Kind != api.NodeText && s.nodes[n].value.Kind != api.NodeComment
}

func (s *said) kids(n int) []int {
	var out []int
	for _, k := range s.order {
		if s.isThere(n) && s.nodes[k].parent == n {
			out = append(out, k)
		}
	}
	return out
}

// stand: child is taken from where it stands and set ahead of ref, or at the end, if ref is -1.
func (s *said) stand(parent, ref, child int) {
	var order []int
	for _, k := range s.order {
		if k == ref {
			order = append(order, child)
		}
		if k != child {
			order = append(order, k)
		}
	}
	if ref < 0 {
		order = append(order, child)
	}
	s.order = order
	s.nodes[child].parent = parent
}

func (s *said) add(n int, text string) api.Errno {
	if !s.isThere(n) {
		return api.ErrNone
	}
	if s.nodes[n].value.Kind != api.NodeText {
		return api.ErrArg
	}
	s.nodes[n].value.Text += text
	return api.OK
}

func (s *said) appendKid(parent, child int) api.Errno {
	if !s.isThere(parent) || !s.isThere(child) {
		return api.ErrNone
	}
	if !s.holds(parent) || child == 0 || s.liesWithin(parent, child) {
		return api.ErrArg
	}
	s.stand(parent, -1, child)
	return api.OK
}

func (s *said) before(ref, child int) api.Errno {
	if !s.isThere(ref) || !s.isThere(child) {
		return api.ErrNone
	}
	if s.nodes[ref].parent < 0 || child == 0 || s.liesWithin(ref, child) {
		return api.ErrArg
	}
	s.stand(s.nodes[ref].parent, ref, child)
	return api.OK
}

func (s *said) remove(n int) api.Errno {
	if !s.isThere(n) {
		return api.ErrNone
	}
	if s.nodes[n].parent < 0 {
		return api.ErrArg
	}
	s.nodes[n].parent = -1
	return api.OK
}

func (s *said) move(from, to int) api.Errno {
	if !s.isThere(from) || !s.isThere(to) {
		return api.ErrNone
	}
	if !s.holds(to) || s.liesWithin(to, from) {
		return api.ErrArg
	}
	for _, k := range s.kids(from) {
		s.stand(to, -1, k)
	}
	return api.OK
}

func (s *said) value(n int) api.Node {
	v := s.nodes[n].value
	for _, k := range s.kids(n) {
		v.Kids = append(v.Kids, s.value(k))
	}
	return v
}

func (s *said) clone() *said {
	return &said{slices.Clone(s.nodes), slices.Clone(s.order)}
}

// placement: where all nodes stand.
func (s *said) placement() string {
	var b strings.Builder
	for n := range s.nodes {
		for _, k := range s.kids(n) {
			b.WriteString(strconv.Itoa(k) + " ")
		}
		b.WriteString(";")
	}
	return b.String()
}

// made: an arena of those nodes at those places.
func (s *said) made(t *testing.T) *Tree {
	x := New()
	for n := 1; n < len(s.nodes); n++ {
		if got := makeNode(x, s.nodes[n].value); got != n {
			t.Fatalf("the node %d is %d", n, got)
		}
	}
	for n := range s.nodes {
		for _, k := range s.kids(n) {
			if e := x.Append(n, k); e != api.OK {
				t.Fatalf("Append(%d, %d): %d", n, k, e)
			}
		}
	}
	return x
}

func makeNode(x *Tree, v api.Node) int {
	switch v.Kind {
	case api.NodeText:
		return x.Text(v.Text)
	case api.NodeComment:
		return x.Comment(v.Text)
	}
	return x.Element(v.Space, v.Name, v.Attrs)
}

// checkSaid: does the arena tell what the second reading has, of all numbers and some that are none?
func checkSaid(t *testing.T, what string, x *Tree, s *said) {
	t.Helper()
	if x.Len() != len(s.nodes) {
		t.Fatalf("%s: Len %d, not %d", what, x.Len(), len(s.nodes))
	}
	for n := -1; n <= len(s.nodes); n++ {
		parent, value := -1, api.Node{}
		if s.isThere(n) {
			parent, value = s.nodes[n].parent, s.value(n)
		}
		if got := x.Parent(n); got != parent {
			t.Fatalf("%s: Parent(%d) %d, not %d", what, n, got, parent)
		}
		if got, want := x.Kids(n), s.kids(n); !slices.Equal(got, want) {
			t.Fatalf("%s: Kids(%d) %v, not %v", what, n, got, want)
		}
		if got := x.Value(n); !alike(got, value) {
			t.Fatalf("%s: Value(%d) %v, not %v", what, n, got, value)
		}
	}
	checkPlaces(t, what, x)
}

// alike: two nodes, of which nil and the empty list are the same.
func alike(a, b api.Node) bool {
	return a.Kind == b.Kind && a.Space == b.Space && a.Name == b.Name && a.Text == b.Text && slices.Equal(a.Attrs, b.Attrs) && slices.EqualFunc(a.Kids, b.Kids, alike)
}

// checkPlaces: P5.2 and P5.3 as they are told, by what the arena says alone.
func checkPlaces(t *testing.T, what string, x *Tree) {
	t.Helper()
	kidOf := make([]int, x.Len())
	for n := range x.Len() {
		for _, k := range x.Kids(n) {
			kidOf[k]++
			if x.Parent(k) != n {
				t.Fatalf("%s: %d is a kid of %d, and %d is its parent", what, k, n, x.Parent(k))
			}
		}
	}
	seen := make([]int, x.Len())
	var walk func(n int)
	walk = func(n int) {
		if seen[n]++; seen[n] == 1 {
			for _, k := range x.Kids(n) {
				walk(k)
			}
		}
	}
	for n := range x.Len() {
		if x.Parent(n) == -1 {
			walk(n)
		} else if kidOf[n] != 1 {
			t.Fatalf("%s: %d is a kid %d times", what, n, kidOf[n])
		}
	}
	for n, times := range seen {
		if times != 1 {
			t.Fatalf("%s: %d lies %d times within those of no parent", what, n, times)
		}
	}
}

// call is one that changes where nodes are.
type call struct {
	name string
	a, b int
}

func (c call) String() string {
	return c.name + " " + strconv.Itoa(c.a) + " " + strconv.Itoa(c.b)
}

func (c call) on(x *Tree) api.Errno {
	switch c.name {
	case "Append":
		return x.Append(c.a, c.b)
	case "Before":
		return x.Before(c.a, c.b)
	case "Move":
		return x.Move(c.a, c.b)
	}
	return x.Remove(c.a)
}

func (c call) onSaid(s *said) api.Errno {
	switch c.name {
	case "Append":
		return s.appendKid(c.a, c.b)
	case "Before":
		return s.before(c.a, c.b)
	case "Move":
		return s.move(c.a, c.b)
	}
	return s.remove(c.a)
}

// calls: all of them over n nodes, and a number that is none on each side.
func calls(n int) []call {
	var out []call
	for a := -1; a <= n; a++ {
		out = append(out, call{"Remove", a, 0})
		for b := -1; b <= n; b++ {
			out = append(out, call{"Append", a, b}, call{"Before", a, b}, call{"Move", a, b})
		}
	}
	return out
}

// checkFrom: goes from all nodes without a parent through every placement that calls lead to, and makes every call at each.
func checkFrom(t *testing.T, values []api.Node) int {
	first := newSaid()
	for _, v := range values {
		first.more(v)
	}
	seen := map[string]bool{first.placement(): true}
	work := []*said{first}
	all := calls(len(first.nodes))
	for len(work) > 0 {
		from := work[0]
		work = work[1:]
		for _, c := range all {
			s, x := from.clone(), from.made(t)
			what := from.placement() + " " + c.String()
			want, got := c.onSaid(s), c.on(x)
			if got != want {
				t.Fatalf("%s: %d, not %d", what, got, want)
			}
			checkSaid(t, what, x, s)
			if p := s.placement(); !seen[p] {
				if got != api.OK {
					t.Fatalf("%s: changed", what)
				}
				seen[p] = true
				work = append(work, s)
			}
		}
	}
	return len(seen)
}

// P5.1, P5.2, P5.3: every call at every placement of few nodes.
func TestEveryCallEverywhere(t *testing.T) {
	a := api.Node{Kind: api.NodeElement, Name: "a", Attrs: []api.Attr{{Name: "k", Value: "v"}}}
	b := api.Node{Kind: api.NodeElement, Name: "b", Space: api.SpaceSvg}
	c := api.Node{Kind: api.NodeElement, Name: "c", Space: api.SpaceMath}
	text := api.Node{Kind: api.NodeText, Text: "t"}
	comment := api.Node{Kind: api.NodeComment, Text: "c"}
	for _, l := range [][]api.Node{nil, {a}, {text}, {comment}, {a, b}, {a, text}, {text, comment}, {a, b, c}, {a, text, comment}, {a, b, text}, {a, b, text, comment}, {a, b, c, text}} {
		if n := checkFrom(t, l); len(l) == 4 && n < 100 {
			t.Errorf("only %d placements of %v", n, l)
		}
	}
}

// P5.1, P5.2, P5.3: long scripts of all calls on one arena, with the numbers of a plain rule.
func TestLongScripts(t *testing.T) {
	for seed := range 12 {
		x, s := New(), newSaid()
		state := uint32(seed)
		next := func(n int) int {
			state = state*1664525 + 1013904223
			return int(state>>8) % n
		}
		for step := range 2500 {
			what := "script " + strconv.Itoa(seed) + " step " + strconv.Itoa(step)
			// A step of few nodes at first, and of more ones later on.
			a, b := next(len(s.nodes)+2)-1, next(len(s.nodes)+2)-1
			if got, want := scriptStep(next(40), a, b, x, s); got != want {
				t.Fatalf("%s: %d, not %d", what, got, want)
			}
			if step%50 == 0 || step < 100 {
				checkSaid(t, what, x, s)
			}
		}
		checkSaid(t, "script "+strconv.Itoa(seed), x, s)
	}
}

// scriptStep: one call on both, and what each answers.
func scriptStep(which, a, b int, x *Tree, s *said) (got, want int) {
	word := strconv.Itoa(a)
	attrs := []api.Attr{{Name: word, Value: "v"}, {Name: word, Value: ""}}
	switch {
	case which == 0:
		return x.Element(api.Space(a%3), word, attrs), s.more(api.Node{Kind: api.NodeElement, Space: api.Space(a % 3), Name: word, Attrs: attrs})
	case which == 1:
		return x.Text(word), s.more(api.Node{Kind: api.NodeText, Text: word})
	case which == 2:
		return x.Comment(word), s.more(api.Node{Kind: api.NodeComment, Text: word})
	case which == 3:
		return x.Copy(a), s.copyOf(a)
	case which < 6:
		return int(x.Add(a, word)), int(s.add(a, word))
	case which < 20:
		return int(x.Append(a, b)), int(s.appendKid(a, b))
	case which < 34:
		return int(x.Before(a, b)), int(s.before(a, b))
	case which < 38:
		return int(x.Remove(a)), int(s.remove(a))
	}
	return int(x.Move(a, b)), int(s.move(a, b))
}
