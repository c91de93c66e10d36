package policy

import (
	"math/rand/v2"
	"slices"
	"strings"
	"testing"

	"marginalia/api"
)

func text(s string) api.Node { return api.Node{Kind: api.NodeText, Text: s} }

func element(name string, kids ...api.Node) api.Node {
	return api.Node{Kind: api.NodeElement, Name: name, Kids: kids}
}

// with: an element with attributes, of names and values in turn.
func with(n api.Node, pairs ...string) api.Node {
	for i := 0; i+1 < len(pairs); i += 2 {
		n.Attrs = append(n.Attrs, api.Attr{Name: pairs[i], Value: pairs[i+1]})
	}
	return n
}

// nested: an element within another, so many in all, and what is within the innermost.
func nested(n int, kids ...api.Node) []api.Node {
	for range n {
		kids = []api.Node{element("b", kids...)}
	}
	return kids
}

// usual: a policy with a rule of each sort.
func usual() api.Policy {
	return api.Policy{Deep: 3, Rules: []api.Rule{{Name: "b"}, {Name: "a", Attrs: list("href title")}, {Name: "img", Attrs: list("src alt href")}}, Links: list("href src cite"), Schemes: list("https mailto"), Drops: list("form")}
}

// allows: a list is allowed by the policy or not, as is said, by the program and by the second reading; by a policy that may not be none is.
func allows(t *testing.T, p api.Policy, want bool, l ...api.Node) {
	t.Helper()
	if got := Allowed(p, l); got != want {
		t.Errorf("Allowed(%s, %+v): %v", show(p), l, got)
	}
	if saidAllowed(p, l, 0) != want {
		t.Errorf("the second reading has %+v otherwise by %s", l, show(p))
	}
	p.Links = append(slices.Clone(p.Links), "NO")
	if Allowed(p, l) {
		t.Errorf("%+v is allowed by a policy that may not be", l)
	}
}

// P11.1: elements are let by the rule of their name, and of just that.
func TestElement(t *testing.T) {
	p := usual()
	for _, name := range list("b a img") {
		if !Element(p, name) {
			t.Errorf("%q is not let", name)
		}
		for _, near := range []string{name + "x", "x" + name, strings.ToUpper(name), name + " ", " " + name, name + "\x00", name[1:]} {
			heldLet(t, p, near, api.Attr{Name: "href"})
			if Element(p, near) {
				t.Errorf("%q is let", near)
			}
		}
	}
	for _, name := range list("i form href https script svg td p") {
		if Element(p, name) {
			t.Errorf("%q is let", name)
		}
	}
	if Element(p, "") || Element(api.Policy{Deep: 1}, "b") || Element(api.Policy{}, "") {
		t.Error("without a rule")
	}
	many := api.Policy{Deep: 1, Rules: rules(40)}
	for _, r := range many.Rules {
		if !Element(many, r.Name) {
			t.Errorf("%q is not let", r.Name)
		}
	}
}

// P11.1: attributes: of no rule, of another name's rule, links and others.
func TestAttr(t *testing.T) {
	p := usual()
	for _, x := range []struct {
		name, attr, value string
		want              bool
	}{
		{"a", "title", "", true}, {"a", "title", "x", true}, {"a", "title", "javascript:x", true}, {"img", "alt", "http:x", true},
		{"a", "href", "", true}, {"a", "href", "x", true}, {"a", "href", "/x:y", true}, {"a", "href", "https://x", true}, {"a", "href", "mailto:x", true}, {"img", "href", "https:x", true}, {"img", "src", "x", true}, {"img", "src", "HTTPS:x", true},
		{"a", "href", "http://x", false}, {"a", "href", "javascript:x", false}, {"a", "href", "data:x", false}, {"img", "src", "http:x", false}, {"img", "href", "httpss:x", false},
		// Bytes that readers pass over.
		{"a", "href", " https:x", true}, {"a", "href", "ht\ttps:x", true}, {"a", "href", "\x00\x1F htt\r\nps:x", true}, {"a", "href", " \t java\nscript:x", false}, {"a", "href", "java\tscript:x", false}, {"a", "href", "\x01javascript:x", false}, {"a", "href", "JaVaScRiPt\r:x", false}, {"img", "src", "\n\rvb\tscript:x", false}, {"a", "href", "java script:x", true}, {"a", "href", "\u00A0javascript:x", true}, {"a", "title", "java\tscript:x", true},
		// In elements of no rule, and in the rule of another name.
		{"i", "title", "x", false}, {"i", "href", "x", false}, {"", "title", "x", false}, {"A", "title", "x", false}, {"form", "title", "x", false}, {"b", "title", "x", false}, {"b", "href", "x", false}, {"a", "src", "x", false}, {"a", "alt", "x", false}, {"img", "title", "x", false},
		// Among Links alone.
		{"a", "cite", "x", false}, {"b", "cite", "https:x", false},
		// Just the name.
		{"a", "Title", "x", false}, {"a", "HREF", "x", false}, {"a", "hre", "x", false}, {"a", "hreff", "x", false}, {"a", "href ", "x", false}, {"a", "", "x", false}, {"a", "a", "x", false}, {"a", "on", "x", false}, {"a", "onclick", "x", false}, {"a", "style", "x", false}, {"a", "https", "x", false},
	} {
		a := api.Attr{Name: x.attr, Value: x.value}
		if got := Attr(p, x.name, a); got != x.want {
			t.Errorf("Attr(%q, %q): %v", x.name, a, got)
		}
		heldLet(t, p, x.name, a)
		none := p
		none.Deep = 0
		if Attr(none, x.name, a) {
			t.Errorf("Attr(%q, %q) by a policy that may not be: true", x.name, a)
		}
	}
}

// P11.1: each scheme of a list lets its links; without schemes only links of none are safe; without links all values are let.
func TestAttrSchemes(t *testing.T) {
	p := api.Policy{Deep: 1, Rules: []api.Rule{{Name: "a", Attrs: list("href x")}}, Links: list("y href"), Schemes: wide(20)}
	for i, name := range wide(21) {
		if got := Attr(p, "a", api.Attr{Name: "href", Value: name + ":x"}); got != (i < 20) {
			t.Errorf("%s: %v", name, got)
		}
	}
	p.Schemes = nil
	for value, want := range map[string]bool{"": true, "x": true, "n0:x": false, "https:": false, ":": true, "1:": true} {
		if got := Attr(p, "a", api.Attr{Name: "href", Value: value}); got != want {
			t.Errorf("%q: %v", value, got)
		}
		if !Attr(p, "a", api.Attr{Name: "x", Value: value}) {
			t.Errorf("%q of what is no link: false", value)
		}
	}
	p.Links = nil
	if !Attr(p, "a", api.Attr{Name: "href", Value: "javascript:x"}) {
		t.Error("what is no link is not let")
	}
}

// P11.1: texts: alone, side by side, apart, empty, and with what no text has.
func TestAllowedTexts(t *testing.T) {
	p := usual()
	allows(t, p, true)
	allows(t, p, true, text("x"))
	allows(t, p, true, text(" "))
	allows(t, p, true, text("<&\x00\xFF\n"))
	allows(t, p, true, text("x"), element("b"), text("x"))
	allows(t, p, true, element("b"), text("x"), element("b"), text("x"), element("b"))
	allows(t, p, true, element("b", text("x")), text("x"))
	allows(t, p, true, element("b", text("x")), element("b", text("x")))
	allows(t, p, true, text("x"), element("b", text("x"), element("b"), text("y")))
	allows(t, p, false, text("x"), text("y"))
	allows(t, p, false, text("x"), text("x"), text("x"))
	allows(t, p, false, element("b"), text("x"), text("y"))
	allows(t, p, false, text("x"), element("b"), text("x"), text("y"), element("b"))
	allows(t, p, false, element("b", text("x"), text("y")))
	allows(t, p, false, element("b", element("b", element("b"), text("x"), text("y"))))
	allows(t, p, false, text(""))
	allows(t, p, false, text("x"), text(""))
	allows(t, p, false, text(""), text("x"))
	allows(t, p, false, element("b"), text(""))
	allows(t, p, false, element("b", text("")))
	for _, spoil := range []func(n *api.Node){
		func(n *api.Node) { n.Name = "b" }, func(n *api.Node) { n.Name = "x" }, func(n *api.Node) { n.Name = " " },
		func(n *api.Node) { n.Attrs = []api.Attr{{}} }, func(n *api.Node) { n.Attrs = []api.Attr{{Name: "title", Value: "x"}} },
		func(n *api.Node) { n.Kids = []api.Node{{}} }, func(n *api.Node) { n.Kids = []api.Node{text("y")} }, func(n *api.Node) { n.Kids = []api.Node{element("b")} },
		func(n *api.Node) { n.Space = api.SpaceSvg }, func(n *api.Node) { n.Space = api.SpaceMath }, func(n *api.Node) { n.Space = -1 }, func(n *api.Node) { n.Space = 3 },
	} {
		n := text("x")
		spoil(&n)
		allows(t, p, false, n)
		allows(t, p, false, element("b"), n)
		allows(t, p, false, element("b", n))
	}
	n := text("x")
	n.Attrs, n.Kids = []api.Attr{}, []api.Node{}
	allows(t, p, true, n)
}

// P11.1: elements: let, of other spaces, with a Text, with attributes that are let or not.
func TestAllowedElements(t *testing.T) {
	p := usual()
	for _, name := range list("b a img") {
		allows(t, p, true, element(name))
		allows(t, p, true, element(name, text("x")), element(name))
		for _, space := range []api.Space{api.SpaceSvg, api.SpaceMath, -1, 3} {
			n := element(name)
			n.Space = space
			allows(t, p, false, n)
			allows(t, p, false, text("x"), n)
			allows(t, p, false, element("b", n))
		}
		n := element(name)
		n.Text = "x"
		allows(t, p, false, n)
		n.Text = " "
		allows(t, p, false, element("b", n))
	}
	for _, name := range []string{"", "i", "B", "form", "script", "svg", "href", "b ", "title"} {
		allows(t, p, false, element(name))
		allows(t, p, false, element("b", element(name)))
		allows(t, p, false, text("x"), element("b"), element(name))
	}
	for _, x := range []struct {
		n    api.Node
		want bool
	}{
		{with(element("a"), "href", "x"), true}, {with(element("a"), "href", "x", "title", "javascript:x"), true}, {with(element("a"), "title", "", "href", ""), true}, {with(element("a"), "title", "x", "title", "y"), true}, {with(element("img"), "src", "https:x", "alt", "", "href", "mailto:x"), true},
		{with(element("a"), "href", "http:x"), false}, {with(element("a"), "title", "x", "href", "http:x"), false}, {with(element("a"), "href", "http:x", "title", "x"), false}, {with(element("a"), "href", "x", "href", "java\tscript:x"), false}, {with(element("a"), "x", ""), false}, {with(element("a"), "title", "", "", ""), false}, {with(element("a"), "title", "", "Title", ""), false}, {with(element("a"), "onclick", "x"), false}, {with(element("a"), "src", "x"), false}, {with(element("a"), "cite", "x"), false},
		{with(element("b"), "title", "x"), false}, {with(element("b"), "href", "x"), false}, {with(element("b"), "", ""), false}, {with(element("img"), "title", "x"), false},
	} {
		allows(t, p, x.want, x.n)
		allows(t, p, x.want, text("x"), element("b", text("x"), x.n, text("y")))
		allows(t, p, x.want, element("b", x.n), x.n)
	}
	allows(t, api.Policy{Deep: 60}, false, element("b"))
	allows(t, api.Policy{Deep: 60}, true, text("x"))
	// Whatever is within, if it is allowed: no element is asked whether it may have kids.
	allows(t, p, true, element("img", text("x"), element("a", element("a"))))
}

// P11.1: comments, roots and what is no kind at all are never allowed.
func TestAllowedOthers(t *testing.T) {
	p := usual()
	for _, kind := range []api.NodeKind{api.NodeRoot, api.NodeComment, -1, 4, 1 << 40} {
		for _, n := range []api.Node{{Kind: kind}, {Kind: kind, Text: "x"}, {Kind: kind, Name: "b"}, {Kind: kind, Kids: []api.Node{text("x")}}} {
			allows(t, p, false, n)
			allows(t, p, false, text("x"), n)
			allows(t, p, false, n, text("x"))
			allows(t, p, false, text("x"), n, text("y"))
			allows(t, p, false, element("b", n))
			allows(t, p, false, element("b", element("b", text("x"), n)), element("b"))
		}
	}
}

// P11.1: just as deep as Deep, and one deeper, at the list's beginning and behind others; texts are as deep as they like.
func TestAllowedDeep(t *testing.T) {
	for _, deep := range []int{1, 2, 3, 30, 59, 60} {
		p := usual()
		p.Deep = deep
		for _, n := range []int{0, 1, deep - 1, deep, deep + 1, deep + 2, 1000} {
			for _, kids := range [][]api.Node{nil, {text("x")}} {
				l := nested(n, kids...)
				allows(t, p, n <= deep, l...)
				allows(t, p, n <= deep, append([]api.Node{element("b")}, l...)...)
				allows(t, p, n <= deep, append(slices.Clone(l), element("b"))...)
				allows(t, p, n+1 <= deep, element("b", l...), element("a"))
				allows(t, p, max(n, 1)+1 <= deep, element("b", append([]api.Node{element("a")}, l...)...))
			}
		}
		// Elements side by side are not nested.
		allows(t, p, true, slices.Repeat([]api.Node{element("b")}, 100)...)
	}
}

// R1: what is very deep or lies within itself ends, and is not allowed; what is very wide ends.
func TestAllowedEnds(t *testing.T) {
	p := usual()
	p.Deep = 60
	if Allowed(p, nested(1<<16)) {
		t.Error("very deep")
	}
	round := make([]api.Node, 3)
	for i := range round {
		round[i] = element("b")
		round[i].Kids = round
	}
	if Allowed(p, round) || Allowed(p, []api.Node{text("x"), element("a", round...)}) {
		t.Error("within itself")
	}
	wide := slices.Repeat([]api.Node{element("b", text("x")), text("y")}, 1<<17)
	if !Allowed(p, wide) || Allowed(p, append(wide, text("y"))) {
		t.Error("very wide")
	}
}

// pieces: nodes of which some are allowed by the usual policy and some are not.
func pieces() []api.Node {
	svg := element("b")
	svg.Space = api.SpaceSvg
	return []api.Node{text("x"), text("y"), text(""), element("b"), element("b", text("x")), element("b", element("a", text("z"))), with(element("a"), "href", "https:x"), with(element("a"), "href", "x:"), with(element("b"), "title", ""), element("i"), svg, {Kind: api.NodeComment, Text: "x"}, {Kind: api.NodeElement, Name: "b", Text: "x"}, {Kind: api.NodeText, Text: "x", Name: "b"}, {}}
}

// P11.1: all lists of up to three of these, by themselves and within others.
func TestAllShortLists(t *testing.T) {
	p, flat := usual(), usual()
	flat.Deep = 1
	check := func(l ...api.Node) {
		heldList(t, p, l)
		heldList(t, flat, l)
		heldList(t, p, []api.Node{text("x"), element("b", l...)})
		heldList(t, p, []api.Node{element("b", element("a", l...)), text("x")})
	}
	check()
	for _, a := range pieces() {
		check(a)
		for _, b := range pieces() {
			check(a, b)
			for _, c := range pieces() {
				check(a, b, c)
			}
		}
	}
}

// anyList: a list of nodes, of which odd ones are one in so many.
func anyList(r *rand.Rand, odd, deep int) []api.Node {
	var l []api.Node
	for range r.IntN(4) {
		if r.IntN(odd) == 0 {
			l = append(l, pieces()[r.IntN(len(pieces()))])
			continue
		}
		if r.IntN(2) == 0 && (len(l) == 0 || l[len(l)-1].Kind != api.NodeText) {
			l = append(l, text(pick(r, "x", " ", "<", "y&")))
			continue
		}
		n := element(pick(r, "b", "a", "img"))
		if n.Name != "b" && r.IntN(2) == 0 {
			n = with(n, "href", pick(r, "", "x", "https:x", "\tmailto:", "/a:b"))
		}
		if deep > 0 {
			n.Kids = anyList(r, odd, deep-1)
		}
		l = append(l, n)
	}
	return l
}

// P11.1: many trees, by policies that are more or less deep.
func TestManyLists(t *testing.T) {
	r := rand.New(rand.NewPCG(11, 4))
	told := map[bool]int{}
	for range 30000 {
		p := usual()
		p.Deep = 1 + r.IntN(5)
		l := anyList(r, 4+r.IntN(40), 5)
		heldList(t, p, l)
		told[Allowed(p, l)]++
	}
	if told[true] < 5000 || told[false] < 5000 {
		t.Errorf("told: %v", told)
	}
}
