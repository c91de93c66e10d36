package filter

import (
	"fmt"
	"slices"
	"strings"
	"testing"

	"marginalia/api"
)

func text(s string) api.Node { return api.Node{Kind: api.NodeText, Text: s} }

func element(name string, kids ...api.Node) api.Node {
	return api.Node{Kind: api.NodeElement, Name: name, Kids: kids}
}

// with: an element with attributes more, of names and values in turn.
func with(n api.Node, pairs ...string) api.Node {
	for i := 0; i+1 < len(pairs); i += 2 {
		n.Attrs = append(n.Attrs, api.Attr{Name: pairs[i], Value: pairs[i+1]})
	}
	return n
}

// nested: elements of a name, one in the other, so many in all, and what is within the innermost.
func nested(n int, name string, kids ...api.Node) []api.Node {
	for range n {
		kids = []api.Node{element(name, kids...)}
	}
	return kids
}

func words(s string) []string { return strings.Fields(s) }

// usual: a policy with a rule of each sort.
func usual() api.Policy {
	return api.Policy{Deep: 3, Rules: []api.Rule{{Name: "b"}, {Name: "a", Attrs: words("href title")}, {Name: "img", Attrs: words("src alt href")}}, Links: words("href src cite"), Schemes: words("https mailto"), Drops: words("form")}
}

func list(l ...api.Node) []api.Node { return l }

// keeps: just this is kept of a list, by the program and by the second reading.
func keeps(t *testing.T, p api.Policy, l, want []api.Node) {
	t.Helper()
	if got := held(t, p, l); show(got) != show(want) {
		t.Errorf("Filter(%+v, %s): %s; want %s", p, show(l), show(got), show(want))
	}
}

// P12.1: the chapter's example.
func TestExample(t *testing.T) {
	p := api.Policy{Deep: 1, Rules: []api.Rule{{Name: "b"}}}
	l := list(text("x"), element("b", text("y"), element("b", text("z"))), element("i", text("w")))
	keeps(t, p, l, list(text("x"), element("b", text("yz")), text("w")))
	p.Deep = 2
	keeps(t, p, l, list(text("x"), element("b", text("y"), element("b", text("z"))), text("w")))
}

// P12.1: nothing of nothing, and of nodes that say nothing.
func TestNothing(t *testing.T) {
	p := usual()
	keeps(t, p, nil, nil)
	keeps(t, p, list(), nil)
	keeps(t, p, list(api.Node{}), nil)
	keeps(t, p, list(element("")), nil)
	keeps(t, p, list(element("i")), nil)
	keeps(t, p, list(element("b")), list(element("b")))
	keeps(t, p, list(api.Node{Kind: api.NodeElement, Name: "b", Attrs: []api.Attr{}, Kids: []api.Node{}}), list(element("b")))
}

// P12.1: empty texts, alone, between others and within elements.
func TestEmptyTexts(t *testing.T) {
	p := usual()
	keeps(t, p, list(text("")), nil)
	keeps(t, p, list(text(""), text(""), text("")), nil)
	keeps(t, p, list(text(""), text("x"), text("")), list(text("x")))
	keeps(t, p, list(text("x"), text(""), text("y")), list(text("xy")))
	keeps(t, p, list(element("b", text(""))), list(element("b")))
	keeps(t, p, list(text(""), element("b"), text("")), list(element("b")))
	keeps(t, p, list(element("b"), text(""), element("b")), list(element("b"), element("b")))
	keeps(t, p, list(element("i", text("")), text(""), element("form", text("x"))), nil)
	keeps(t, p, list(text(" ")), list(text(" ")))
	keeps(t, p, list(text("\x00"), text("\n")), list(text("\x00\n")))
	keeps(t, p, list(text("<b>"), text("&amp;"), text("\xFF")), list(text("<b>&amp;\xFF")))
}

// P12.1: texts meet where an element between them goes, or one's kids come in its place: ahead of it, behind it, on both sides, several levels deep.
func TestTextsMeet(t *testing.T) {
	p := usual()
	x, y, z := text("x"), text("y"), text("z")
	for _, between := range [][]api.Node{nil, list(text("")), list(element("i")), list(element("form", text("q"))), list(element("script", text("q"))), list(element("plaintext")), list(api.Node{Kind: api.NodeComment, Text: "q"}), list(api.Node{Kind: api.NodeElement, Space: api.SpaceSvg, Name: "b", Kids: list(text("q"))}), list(element("i", element("u", element("form", element("b")))), api.Node{}, text(""))} {
		l := append(append(list(x), between...), y)
		keeps(t, p, l, list(text("xy")))
		keeps(t, p, list(element("b", l...)), list(element("b", text("xy"))))
		keeps(t, p, list(element("i", l...), z), list(text("xyz")))
		keeps(t, p, append(append(slices.Clone(l), between...), z), list(text("xyz")))
	}
	keeps(t, p, list(x, element("i", y), z), list(text("xyz")))
	keeps(t, p, list(x, element("i", y)), list(text("xy")))
	keeps(t, p, list(element("i", y), z), list(text("yz")))
	keeps(t, p, list(element("i", x), element("i", y), element("u", z)), list(text("xyz")))
	keeps(t, p, list(x, element("i", element("u", element("s", y))), z), list(text("xyz")))
	keeps(t, p, list(x, element("i", x, element("u", y), z), z), list(text("xxyzz")))
	// What is kept parts them.
	b := element("b")
	keeps(t, p, list(x, b, y), list(x, b, y))
	keeps(t, p, list(x, element("i", b), y), list(x, b, y))
	keeps(t, p, list(x, element("i", y, b, y), z), list(text("xy"), b, text("yz")))
	keeps(t, p, list(x, element("i", y, b), z), list(text("xy"), b, z))
	keeps(t, p, list(x, element("i", b, y), z), list(x, b, text("yz")))
	keeps(t, p, list(x, element("i", element("u", y, element("b", z), y)), z), list(text("xy"), element("b", z), text("yz")))
	// Texts within what is kept meet no others.
	keeps(t, p, list(x, element("b", y), z), list(x, element("b", y), z))
	keeps(t, p, list(element("b", x), element("b", y), z), list(element("b", x), element("b", y), z))
	keeps(t, p, list(x, element("b", element("i", y), y), z), list(x, element("b", text("yy")), z))
}

// P12.1: of a text Kind and Text are told, whatever else it has.
func TestTextsAlone(t *testing.T) {
	p := usual()
	for _, spoil := range []func(n *api.Node){
		func(n *api.Node) { n.Space = api.SpaceSvg }, func(n *api.Node) { n.Space = api.SpaceMath }, func(n *api.Node) { n.Space = -1 }, func(n *api.Node) { n.Space = 9 },
		func(n *api.Node) { n.Name = "b" }, func(n *api.Node) { n.Name = "script" }, func(n *api.Node) { n.Name = "form" }, func(n *api.Node) { n.Name = "plaintext" },
		func(n *api.Node) { n.Attrs = []api.Attr{{Name: "href"}} }, func(n *api.Node) { n.Kids = list(text("k")) }, func(n *api.Node) { n.Kids = list(element("b", text("k"))) },
		func(n *api.Node) {
			*n = api.Node{Kind: n.Kind, Space: 2, Name: "a", Attrs: []api.Attr{{}}, Text: n.Text, Kids: list(api.Node{})}
		},
	} {
		n, none := text("x"), text("")
		spoil(&n)
		spoil(&none)
		keeps(t, p, list(n), list(text("x")))
		keeps(t, p, list(n, n, text("y"), n), list(text("xxyx")))
		keeps(t, p, list(element("b", n)), list(element("b", text("x"))))
		keeps(t, p, list(element("i", n)), list(text("x")))
		keeps(t, p, list(none), nil)
		keeps(t, p, list(text("x"), none, text("y")), list(text("xy")))
	}
}

// P12.1: nothing is kept of comments, roots and what is no kind at all, nor of what is within them.
func TestOtherKinds(t *testing.T) {
	p := usual()
	for _, k := range []api.NodeKind{api.NodeRoot, api.NodeComment, -1, 4, 1 << 40} {
		for _, n := range []api.Node{{Kind: k}, {Kind: k, Text: "x"}, {Kind: k, Name: "b"}, {Kind: k, Name: "b", Text: "x", Kids: list(text("x"), element("b", text("y")))}, {Kind: k, Kids: list(element("i", text("x")))}} {
			keeps(t, p, list(n), nil)
			keeps(t, p, list(n, text("x"), n, n, text("y"), n), list(text("xy")))
			keeps(t, p, list(element("b", n), n), list(element("b")))
			keeps(t, p, list(element("i", n, element("b"), n)), list(element("b")))
		}
	}
}

// P12.1: nothing is kept of elements of other spaces, by whatever name, nor of what is within them.
func TestOtherSpaces(t *testing.T) {
	p := usual()
	for _, s := range []api.Space{api.SpaceSvg, api.SpaceMath, -1, 3, 1 << 40} {
		for _, name := range []string{"b", "a", "i", "svg", "math", "script", "form", "plaintext", ""} {
			n := with(element(name, text("x"), element("b", text("y"))), "title", "x")
			n.Space = s
			keeps(t, p, list(n), nil)
			keeps(t, p, list(text("1"), n, text("2")), list(text("12")))
			keeps(t, p, list(element("b", n)), list(element("b")))
			keeps(t, p, list(element("i", n, element("b", n))), list(element("b")))
		}
	}
	// Of SpaceHtml such a name is as any other that no rule has.
	for _, name := range words("svg math textarea title template noscript td tr html body p") {
		keeps(t, p, list(element(name, text("x"), element("b"))), list(text("x"), element("b")))
	}
}

// P12.1: elements in Drops, of SetRaw, and plaintext go with all that is within them, at every depth.
func TestDropped(t *testing.T) {
	p := usual()
	p.Deep, p.Drops = 60, words("form svg u textarea")
	for _, name := range words("form svg u textarea iframe noembed noframes script style xmp plaintext") {
		n := with(element(name, text("x"), element("b", text("y")), element("i", text("z"))), "title", "x")
		for _, deep := range []int{0, 1, 2, 59, 60, 61, 100} {
			keeps(t, p, nested(deep, "i", n), nil)
			keeps(t, p, nested(deep, "i", text("1"), n, text("2")), list(text("12")))
			keeps(t, p, nested(deep, "b", n), nested(min(deep, 60), "b"))
			keeps(t, p, nested(deep, "b", text("1"), n, text("2")), nested(min(deep, 60), "b", text("12")))
		}
		keeps(t, p, list(n, n), nil)
		// Just that name.
		for _, near := range []string{strings.ToUpper(name), name + "x", "x" + name, name + " ", " " + name, name[1:]} {
			if near != "" {
				keeps(t, p, list(element(near, text("x"), element("b", text("y")))), list(text("x"), element("b", text("y"))))
			}
		}
	}
	// What is in Drops here is not there.
	p.Drops = nil
	for _, name := range words("form svg u textarea") {
		keeps(t, p, list(element(name, text("x"), element("b"))), list(text("x"), element("b")))
	}
	for _, name := range words("iframe noembed noframes script style xmp plaintext") {
		keeps(t, p, list(element(name, text("x"), element("b"))), nil)
	}
	// Each of many.
	p.Drops = nil
	for i := range api.MaxNames {
		p.Drops = append(p.Drops, fmt.Sprintf("d%d", i))
	}
	for i := range api.MaxNames + 1 {
		want := list(text("x"))
		if i < api.MaxNames {
			want = nil
		}
		keeps(t, p, list(element(fmt.Sprintf("d%d", i), text("x"))), want)
	}
}

// P12.1: of an element that is not let its kids come in its place, also one in the other.
func TestNotLet(t *testing.T) {
	p := usual()
	inner := list(text("1"), with(element("a", text("2")), "title", "t"), text("3"))
	for _, name := range []string{"i", "p", "B", "b ", "", "href", "svg", "td", "textarea", "br", "https"} {
		keeps(t, p, list(element(name, inner...)), inner)
		keeps(t, p, list(with(element(name, inner...), "title", "x", "href", "https:x")), inner)
		keeps(t, p, list(element(name, element(name, element("u", inner...)))), inner)
		keeps(t, p, list(element("b"), element(name, inner...), element("b")), append(append(list(element("b")), inner...), element("b")))
		keeps(t, p, list(element("b", element(name, inner...))), list(element("b", inner...)))
	}
	keeps(t, p, list(element("i", element("b"), element("u", element("b"), element("s", element("a")), element("b")))), list(element("b"), element("b"), element("a"), element("b")))
	keeps(t, p, list(element("b", element("i", element("b", element("i", element("b", element("i", element("b", text("x"))))))))), list(element("b", element("b", element("b", text("x"))))))
	// Of an element its Text is not told; nor does it come in its place.
	n := element("b", text("x"))
	n.Text = "T"
	keeps(t, p, list(n), list(element("b", text("x"))))
	n.Name = "i"
	keeps(t, p, list(n), list(text("x")))
}

// P12.1: just as many elements around as Deep says, and one more; those that go do not count.
func TestDeep(t *testing.T) {
	for _, deep := range []int{1, 2, 3, 30, 59, 60} {
		p := usual()
		p.Deep = deep
		for _, n := range []int{0, 1, deep - 1, deep, deep + 1, deep + 2, 2*deep + 1, 500} {
			want := nested(min(n, deep), "b", text("x"))
			keeps(t, p, nested(n, "b", text("x")), want)
			keeps(t, p, nested(100, "i", nested(n, "b", nested(100, "u", text("x"))...)...), want)
			var between []api.Node
			between = list(text("x"))
			for range n {
				between = list(element("i", element("b", element("u", between...))))
			}
			keeps(t, p, between, want)
		}
		// Behind those that are nested others are counted from where they stand.
		l := nested(deep+1, "b", text("x"))
		keeps(t, p, append(slices.Clone(l), l...), append(nested(deep, "b", text("x")), nested(deep, "b", text("x"))...))
		keeps(t, p, append(slices.Clone(l), element("a")), append(nested(deep, "b", text("x")), element("a")))
		// The kids of one that is too deep come in its place, with theirs.
		keeps(t, p, nested(deep, "b", text("1"), element("a", text("2"), element("b", text("3"))), text("4")), nested(deep, "b", text("1234")))
		keeps(t, p, nested(deep, "b", element("a"), element("script", text("x")), element("a")), nested(deep, "b"))
		keeps(t, p, nested(deep-1, "b", text("1"), element("a", text("2"), element("b", text("3"))), text("4")), nested(deep-1, "b", text("1"), element("a", text("23")), text("4")))
	}
}

// P12.1: attributes that are let, in order; the same name twice is let twice.
func TestAttrs(t *testing.T) {
	p := usual()
	for _, x := range []struct{ name, have, want string }{
		{"a", "", ""}, {"a", "href=x", "href=x"}, {"a", "title=x", "title=x"}, {"a", "href=x title=y", "href=x title=y"}, {"a", "title=y href=x", "title=y href=x"},
		{"a", "href=https:x", "href=https:x"}, {"a", "href=mailto:x", "href=mailto:x"}, {"a", "href=http:x", ""}, {"a", "href=javascript:x", ""}, {"a", "href=java\tscript:x", ""}, {"a", "href=\x01JavaScript:x", ""}, {"a", "title=javascript:x", "title=javascript:x"}, {"a", "href=/x:y", "href=/x:y"}, {"a", "href=", "href="},
		{"a", "onclick=x href=x on=y", "href=x"}, {"a", "x=1 href=2 y=3 title=4 z=5", "href=2 title=4"}, {"a", "src=x alt=y cite=z", ""}, {"a", "HREF=x Title=y hrefx=z hre=w =v", ""}, {"a", "style=x srcdoc=y", ""},
		{"a", "href=1 href=2", "href=1 href=2"}, {"a", "href=1 href=java:x href=2 title=t href=1", "href=1 href=2 title=t href=1"}, {"a", "title=1 title=1", "title=1 title=1"},
		{"b", "href=x title=y", ""}, {"b", "onclick=x", ""}, {"img", "src=x alt=y href=z", "src=x alt=y href=z"}, {"img", "alt=y src=http:x title=t href=https:", "alt=y href=https:"}, {"img", "cite=x", ""},
	} {
		n, want := element(x.name, text("k")), element(x.name, text("k"))
		n.Attrs, want.Attrs = attrsOf(x.have), attrsOf(x.want)
		keeps(t, p, list(n), list(want))
		keeps(t, p, list(element("b", element("i", n, n))), list(element("b", want, want)))
	}
	p.Links = nil
	keeps(t, p, list(with(element("a"), "href", "javascript:x", "cite", "x")), list(with(element("a"), "href", "javascript:x")))
	p = usual()
	p.Schemes = nil
	keeps(t, p, list(with(element("a"), "href", "https:x", "href", "x")), list(with(element("a"), "href", "x")))
}

// attrsOf: attributes, written as names and values; blanks part them.
func attrsOf(s string) []api.Attr {
	var l []api.Attr
	for _, pair := range strings.Split(s, " ") {
		if name, value, ok := strings.Cut(pair, "="); ok {
			l = append(l, api.Attr{Name: name, Value: value})
		}
	}
	return l
}

// P12.1: each rule of many lets its element, with each of its many attributes.
func TestManyRules(t *testing.T) {
	p := api.Policy{Deep: 60}
	for i := range api.MaxRules {
		r := api.Rule{Name: fmt.Sprintf("e%d", i)}
		for j := range api.MaxNames {
			r.Attrs = append(r.Attrs, fmt.Sprintf("a%d-%d", i, j))
		}
		p.Rules = append(p.Rules, r)
	}
	for i := range api.MaxRules + 1 {
		n, want := element(fmt.Sprintf("e%d", i), text("x")), element(fmt.Sprintf("e%d", i), text("x"))
		for _, of := range []int{i, (i + 1) % api.MaxRules} {
			for j := range api.MaxNames + 1 {
				n = with(n, fmt.Sprintf("a%d-%d", of, j), "v")
				if of == i && j < api.MaxNames {
					want = with(want, fmt.Sprintf("a%d-%d", of, j), "v")
				}
			}
		}
		if i == api.MaxRules {
			keeps(t, p, list(n), list(text("x")))
		} else {
			keeps(t, p, list(n), list(want))
		}
	}
}

// P12.1: nothing at all is kept by a policy that may not be, or is too large.
func TestWrongPolicies(t *testing.T) {
	l := list(text("x"), element("b", text("y")), element("i", text("z")))
	many := func(n int) []string {
		var l []string
		for i := range n {
			l = append(l, fmt.Sprintf("n%d", i))
		}
		return l
	}
	if got := Filter(usual(), l); len(got) != 3 {
		t.Fatalf("by a policy that may be: %s", show(got))
	}
	for name, spoil := range map[string]func(p *api.Policy){
		"deep 0": func(p *api.Policy) { p.Deep = 0 }, "deep -1": func(p *api.Policy) { p.Deep = -1 }, "deep 61": func(p *api.Policy) { p.Deep = 61 },
		"nothing":         func(p *api.Policy) { *p = api.Policy{} },
		"a wrong name":    func(p *api.Policy) { p.Rules[0].Name = "B" },
		"no name":         func(p *api.Policy) { p.Rules[0].Name = "" },
		"script":          func(p *api.Policy) { p.Rules[0].Name = "script" },
		"plaintext":       func(p *api.Policy) { p.Rules[0].Name = "plaintext" },
		"svg":             func(p *api.Policy) { p.Rules[0].Name = "svg" },
		"twice":           func(p *api.Policy) { p.Rules[1].Name = "b" },
		"a rule's drop":   func(p *api.Policy) { p.Drops = words("b") },
		"on":              func(p *api.Policy) { p.Rules[1].Attrs = words("onclick") },
		"style":           func(p *api.Policy) { p.Rules[1].Attrs = words("style") },
		"a list twice":    func(p *api.Policy) { p.Links = words("x x") },
		"javascript":      func(p *api.Policy) { p.Schemes = words("javascript") },
		"a wrong drop":    func(p *api.Policy) { p.Drops = words("-") },
		"too many links":  func(p *api.Policy) { p.Links = many(21) },
		"too many drops":  func(p *api.Policy) { p.Drops = many(21) },
		"too many names":  func(p *api.Policy) { p.Rules[0].Attrs = many(21) },
		"too many scheme": func(p *api.Policy) { p.Schemes = many(21) },
		"too many rules": func(p *api.Policy) {
			for _, name := range many(38) {
				p.Rules = append(p.Rules, api.Rule{Name: name})
			}
		},
	} {
		p := usual()
		spoil(&p)
		for _, l := range [][]api.Node{nil, l, list(text("x")), nested(3, "i", text("x"))} {
			if got := Filter(p, l); len(got) != 0 {
				t.Errorf("%s: %s", name, show(got))
			}
		}
	}
}

// R1: what is very deep, very wide, and very often parted ends, in a time that goes with its size.
func TestEnds(t *testing.T) {
	p := usual()
	p.Deep = 60
	if got := Filter(p, nested(1<<16, "i", text("x"))); show(got) != show(list(text("x"))) {
		t.Errorf("very deep: %.200s", show(got))
	}
	if got := Filter(p, nested(1<<16, "b", text("x"))); show(got) != show(nested(60, "b", text("x"))) {
		t.Errorf("deeper than is let: %.200s", show(got))
	}
	wide := slices.Repeat(list(text("x"), element("i", text("y"))), 1<<18)
	if got := Filter(p, wide); len(got) != 1 || got[0].Text != strings.Repeat("xy", 1<<18) {
		t.Errorf("very wide: %d", len(got))
	}
	parted := slices.Repeat(list(text("x"), element("b", text("y"))), 1<<16)
	if got := Filter(p, parted); len(got) != 1<<17 {
		t.Errorf("often parted: %d", len(got))
	}
	// Each of many attributes, by a policy of as many names as may be.
	for i := range api.MaxRules - len(p.Rules) {
		r := api.Rule{Name: fmt.Sprintf("e%d", i)}
		for j := range api.MaxNames {
			r.Attrs = append(r.Attrs, fmt.Sprintf("a-long-attribute-%d", j))
		}
		p.Rules = append(p.Rules, r)
	}
	decked := element("e0")
	for i := range 1000 {
		decked = with(decked, fmt.Sprintf("a-long-attribute-%d", i), "x")
	}
	if got := Filter(p, slices.Repeat(list(decked), 200)); len(got) != 200 || len(got[199].Attrs) != api.MaxNames {
		t.Errorf("many attributes: %d", len(got))
	}
	var steps []api.Node
	for range 1 << 15 {
		steps = list(text("x"), element("i", steps...), element("b"), text("y"))
	}
	if got := Filter(p, steps); len(got) != 1<<16+1 || len(got[0].Text) != 1<<15 {
		t.Errorf("a long way down: %d", len(got))
	}
}
