package build

import (
	"slices"
	"testing"

	"marginalia/api"
)

func text(s string) api.Node    { return api.Node{Kind: api.NodeText, Text: s} }
func comment(s string) api.Node { return api.Node{Kind: api.NodeComment, Text: s} }

func element(name string, kids ...api.Node) api.Node {
	return api.Node{Kind: api.NodeElement, Name: name, Kids: kids}
}

// P8.1: lists that differ in one thing alone.
func TestSame(t *testing.T) {
	make := func(change func(n *api.Node)) []api.Node {
		n := element("b", text("x"), element("i", comment("c")))
		n.Attrs = []api.Attr{{Name: "k", Value: "v"}, {Name: "l", Value: "w"}}
		change(&n)
		return []api.Node{text("a"), n}
	}
	whole := make(func(n *api.Node) {})
	if again := make(func(n *api.Node) {}); !Same(whole, again) || !Same(whole, whole) {
		t.Error("alike, and told that not")
	}
	for name, change := range map[string]func(n *api.Node){
		"kind":            func(n *api.Node) { n.Kind = api.NodeComment },
		"no kind":         func(n *api.Node) { n.Kind = 99 },
		"space":           func(n *api.Node) { n.Space = api.SpaceMath },
		"name":            func(n *api.Node) { n.Name = "B" },
		"text":            func(n *api.Node) { n.Text = "x" },
		"attr name":       func(n *api.Node) { n.Attrs[1].Name = "m" },
		"attr value":      func(n *api.Node) { n.Attrs[0].Value = "" },
		"attr order":      func(n *api.Node) { slices.Reverse(n.Attrs) },
		"attr less":       func(n *api.Node) { n.Attrs = n.Attrs[:1] },
		"attr more":       func(n *api.Node) { n.Attrs = append(n.Attrs, api.Attr{}) },
		"attr twice":      func(n *api.Node) { n.Attrs[1] = n.Attrs[0] },
		"kid less":        func(n *api.Node) { n.Kids = n.Kids[:1] },
		"kid more":        func(n *api.Node) { n.Kids = append(n.Kids, text("")) },
		"kids' order":     func(n *api.Node) { slices.Reverse(n.Kids) },
		"kid's text":      func(n *api.Node) { n.Kids[0].Text = "y" },
		"kid's name":      func(n *api.Node) { n.Kids[1].Name = "u" },
		"kid's kid":       func(n *api.Node) { n.Kids[1].Kids[0].Text = "d" },
		"kid's kid's kid": func(n *api.Node) { n.Kids[1].Kids[0].Kids = []api.Node{text("")} },
		"no kids":         func(n *api.Node) { n.Kids = nil },
	} {
		if other := make(change); Same(whole, other) || Same(other, whole) {
			t.Errorf("%s: not alike, and told so", name)
		}
	}
	if Same(whole, whole[:1]) || Same(whole[:1], whole) || Same(whole, nil) || Same(nil, whole) || Same(whole[:1], whole[1:]) {
		t.Error("lists of other lengths, and told to be alike")
	}
	// nil and the empty list are the same.
	a := []api.Node{{Kind: api.NodeElement, Attrs: nil, Kids: []api.Node{}}}
	b := []api.Node{{Kind: api.NodeElement, Attrs: []api.Attr{}, Kids: nil}}
	if !Same(nil, nil) || !Same(nil, []api.Node{}) || !Same(a, b) {
		t.Error("nothing is not alike with nothing")
	}
}

// P8.1: how many nodes there are, and how deep.
func TestManyDeep(t *testing.T) {
	for _, x := range []struct {
		l          []api.Node
		many, deep int
	}{
		{nil, 0, 0},
		{[]api.Node{}, 0, 0},
		{[]api.Node{text("x")}, 1, 0},
		{[]api.Node{text("x"), comment("c"), text("")}, 3, 0},
		{[]api.Node{element("b")}, 1, 1},
		{[]api.Node{element("b"), element("i"), element("u")}, 3, 1},
		{[]api.Node{element("b", text("x"), comment("c"))}, 3, 1},
		{[]api.Node{element("b", element("i"), text("x")), text("y")}, 4, 2},
		{[]api.Node{element("b"), element("i", element("u", text("x"), element("s"))), element("p", element("b"))}, 7, 3},
		{[]api.Node{{Kind: api.NodeElement, Space: api.SpaceSvg, Kids: []api.Node{{Kind: api.NodeElement, Space: api.SpaceMath}}}}, 2, 2},
		{[]api.Node{{}}, 1, 0},
	} {
		if Many(x.l) != x.many || Deep(x.l) != x.deep {
			t.Errorf("%s: %d nodes, %d deep, not %d, %d", short(x.l), Many(x.l), Deep(x.l), x.many, x.deep)
		}
	}
}

// P8.1, R1: 2^16 nodes, one in the other.
func TestVeryDeep(t *testing.T) {
	var a, b []api.Node
	for range 1 << 16 {
		a = []api.Node{{Kind: api.NodeElement, Kids: a}}
		b = []api.Node{{Kind: api.NodeElement, Kids: b}}
	}
	if !Same(a, b) || Same(a, b[0].Kids) || Many(a) != 1<<16 || Deep(a) != 1<<16 {
		t.Error("of 2^16 nodes one in the other")
	}
}

// R4: what is asked of lists changes none of them.
func TestListsStay(t *testing.T) {
	l, _ := Fragment("<b k=v>x<i>y<!--c--></i></b><svg>z")
	again, _ := Fragment("<b k=v>x<i>y<!--c--></i></b><svg>z")
	Same(l, l)
	Same(l, nil)
	Many(l)
	Deep(l)
	if short(l) != short(again) {
		t.Errorf("%s", short(l))
	}
}
