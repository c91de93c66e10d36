package print

import (
	"slices"
	"strings"
	"testing"

	"marginalia/api"
)

func text(s string) api.Node    { return api.Node{Kind: api.NodeText, Text: s} }
func comment(s string) api.Node { return api.Node{Kind: api.NodeComment, Text: s} }

func element(name string, kids ...api.Node) api.Node {
	return api.Node{Kind: api.NodeElement, Name: name, Kids: kids}
}

// of: an element, in another space.
func of(space api.Space, n api.Node) api.Node {
	n.Space = space
	return n
}

// with: an element with attributes, of names and values in turn.
func with(n api.Node, pairs ...string) api.Node {
	for i := 0; i+1 < len(pairs); i += 2 {
		n.Attrs = append(n.Attrs, api.Attr{Name: pairs[i], Value: pairs[i+1]})
	}
	return n
}

// writes: a list is written as is said, by the program and by the second reading.
func writes(t *testing.T, want string, l ...api.Node) {
	t.Helper()
	if got := Fragment(l); got != want {
		t.Errorf("%q, not %q", got, want)
	}
	if said := saidFragment(l); said != want {
		t.Errorf("the second reading has %q, not %q", said, want)
	}
}

// P9.1: the chapter's examples.
func TestExamples(t *testing.T) {
	writes(t, `<a href="x&quot;y">&lt;</a>`, with(element("a", text("<")), "href", `x"y`))
	writes(t, "<br>", element("br"))
}

// P9.1: lists of nothing, one node, several, in order.
func TestLists(t *testing.T) {
	writes(t, "")
	if got := Fragment([]api.Node{}) + Fragment(make([]api.Node, 0, 5)) + Fragment(nil); got != "" {
		t.Errorf("nothing is written as %q", got)
	}
	writes(t, "", text(""))
	writes(t, "x", text("x"))
	writes(t, "x<b></b><!--c-->y", text("x"), element("b"), comment("c"), text("y"))
	writes(t, "<b></b><b></b>", element("b"), element("b"))
	writes(t, "<p>1<b>2</b>3<i><u>4</u></i></p>5", element("p", text("1"), element("b", text("2")), text("3"), element("i", element("u", text("4")))), text("5"))
	// Each text by itself: the halves of a sign that stand in two are not put together.
	writes(t, "\xC2\xA0", text("\xC2"), text("\xA0"))
	writes(t, "&amp;lt;", text("&"), text("lt;"))
	writes(t, "<b>\xC2\xA0</b>", element("b", text("\xC2"), text("\xA0")))
}

// P9.1: attributes: none, several, in order, empty, twice, escaped as in an attribute.
func TestAttributes(t *testing.T) {
	writes(t, `<b k="v"></b>`, with(element("b"), "k", "v"))
	writes(t, `<b k="v" l="w" a="x"></b>`, with(element("b"), "k", "v", "l", "w", "a", "x"))
	writes(t, `<b k=""></b>`, with(element("b"), "k", ""))
	writes(t, `<b ="v"></b>`, with(element("b"), "", "v"))
	writes(t, `<b ="" =""></b>`, with(element("b"), "", "", "", ""))
	writes(t, `<b k="v" k="v" k="w"></b>`, with(element("b"), "k", "v", "k", "v", "k", "w"))
	writes(t, `<b k="&amp;&nbsp;&lt;&gt;&quot;'">"</b>`, with(element("b", text(`"`)), "k", "&\u00A0<>\"'"))
	writes(t, `<b k="&amp;amp;"></b>`, with(element("b"), "k", "&amp;"))
	writes(t, "<b k=\"\xFF\xC2\n \x00\"></b>", with(element("b"), "k", "\xFF\xC2\n \x00"))
	writes(t, `<br k="&lt;">`, with(element("br", text("x")), "k", "<"))
	// A value is escaped even where texts are written as they stand.
	writes(t, `<style k="&lt;&amp;"><&</style>`, with(element("style", text("<&")), "k", "<&"))
	writes(t, `<plaintext k="&quot;">"</plaintext>`, with(element("plaintext", text(`"`)), "k", `"`))
	writes(t, `<svg k="v"></svg>`, of(api.SpaceSvg, with(element("svg"), "k", "v")))
	// Names are written as they stand, of elements and of attributes.
	writes(t, "<\"&<>\u00A0 \"&<>\u00A0=\"\"></\"&<>\u00A0>", with(element("\"&<>\u00A0"), "\"&<>\u00A0", ""))
	writes(t, "<B Key=\"V\"></B>", with(element("B"), "Key", "V"))
	writes(t, "<></>", element(""))
	writes(t, "<>x</>", element("", text("x")))
	writes(t, "<\xC2\xA0\xFF></\xC2\xA0\xFF>", element("\xC2\xA0\xFF"))
	// What an element has as its Text is nothing of it; what a text or a comment has beside its Text neither.
	writes(t, "<b></b>", api.Node{Kind: api.NodeElement, Name: "b", Text: "<x"})
	writes(t, "<br>", api.Node{Kind: api.NodeElement, Name: "br", Text: "x"})
	writes(t, "x<!--y-->", with(api.Node{Kind: api.NodeText, Name: "b", Text: "x", Space: 1}, "k", "v"), with(api.Node{Kind: api.NodeComment, Name: "b", Text: "y", Space: 2}, "k", "v"))
}

// P9.1: texts right within each element of SetRaw and plaintext, of each space, and one element deeper.
func TestRawTexts(t *testing.T) {
	const signs, escaped = "&\u00A0<>\"\xC2</b>&amp;", "&amp;&nbsp;&lt;&gt;\"\xC2&lt;/b&gt;&amp;amp;"
	for _, name := range strings.Fields(rawNames + " plaintext") {
		begin, end := "<"+name+">", "</"+name+">"
		writes(t, begin+signs+end, element(name, text(signs)))
		writes(t, begin+signs+signs+"<!--"+signs+"-->"+signs+end, element(name, text(signs), text(signs), comment(signs), text(signs)))
		writes(t, begin+"\xC2\xA0"+end, element(name, text("\xC2"), text("\xA0")))
		writes(t, begin+end, element(name))
		for _, space := range []api.Space{api.SpaceSvg, api.SpaceMath, 3, -1, 99} {
			writes(t, begin+escaped+end, of(space, element(name, text(signs))))
			writes(t, begin+escaped+begin+signs+end+escaped+end, of(space, element(name, text(signs), element(name, text(signs)), text(signs))))
			writes(t, begin+signs+begin+escaped+end+signs+end, element(name, text(signs), of(space, element(name, text(signs))), text(signs)))
		}
		// Only right within: not deeper, not behind, and of a text within no element not by what it has itself.
		writes(t, begin+"<b>"+escaped+"</b>"+signs+end, element(name, element("b", text(signs)), text(signs)))
		writes(t, begin+"<b><i>"+escaped+"</i></b>"+end, element(name, element("b", element("i", text(signs)))))
		writes(t, "<b>"+begin+signs+end+escaped+"</b>"+escaped, element("b", element(name, text(signs)), text(signs)), text(signs))
		writes(t, begin+begin+signs+end+signs+end, element(name, element(name, text(signs)), text(signs)))
		writes(t, escaped, api.Node{Kind: api.NodeText, Name: name, Text: signs})
		// Names that are nearly it.
		for _, other := range []string{strings.ToUpper(name), strings.ToUpper(name[:1]) + name[1:], name + " ", " " + name, name[1:], name[:len(name)-1], name + "s"} {
			writes(t, "<"+other+">"+escaped+"</"+other+">", element(other, text(signs)))
		}
	}
	for _, name := range []string{"textarea", "title", "noscript", "template", "pre", "listing", "div", "p", "svg", "math", "select", "object", "html", ""} {
		for _, space := range []api.Space{api.SpaceHtml, api.SpaceSvg, api.SpaceMath} {
			writes(t, "<"+name+">"+escaped+"</"+name+">", of(space, element(name, text(signs))))
		}
	}
}

// P9.1: each void element, with and without kids, of each space, and what is nearly one.
func TestVoid(t *testing.T) {
	for _, name := range strings.Fields(voidNames) {
		begin, end := "<"+name+">", "</"+name+">"
		writes(t, begin, element(name))
		writes(t, begin+"y", element(name, text("x"), element("b", text("x")), comment("c"), element(name)), text("y"))
		writes(t, "<"+name+` k="v">`, with(element(name, text("x")), "k", "v"))
		writes(t, "<b>1"+begin+"2</b>", element("b", text("1"), element(name, text("x")), text("2")))
		for _, space := range []api.Space{api.SpaceSvg, api.SpaceMath, 3, -1} {
			writes(t, begin+end, of(space, element(name)))
			writes(t, begin+"x&lt;"+begin+end, of(space, element(name, text("x<"), element(name, text("y")))))
		}
		for _, other := range []string{strings.ToUpper(name), name + " ", name[1:], name + "x"} {
			if !listed(voidNames, other) {
				writes(t, "<"+other+">x</"+other+">", element(other, text("x")))
			}
		}
	}
	for _, name := range []string{"basefont", "bgsound", "frame", "keygen", "image", "command", "p", "td"} {
		writes(t, "<"+name+">x</"+name+">", element(name, text("x")))
	}
}

// P9.1: comments, with any text, are written as they stand wherever they stand.
func TestComments(t *testing.T) {
	for _, s := range []string{"", "c", " c ", "-", "--", "-->", "--!>", ">", "->", "<!--", "&<>\"\u00A0", "&amp;", "\xC2", "\xFF\x00\n", "<b>x</b>"} {
		writes(t, "<!--"+s+"-->", comment(s))
		writes(t, "<b><!--"+s+"--></b>", element("b", comment(s)))
		writes(t, "<style><!--"+s+"--></style>", element("style", comment(s)))
		writes(t, "<g><!--"+s+"--></g><!--"+s+"-->", of(api.SpaceSvg, element("g", comment(s))), comment(s))
	}
}

// P9.1: texts and comments that were handed in with kids: only elements have some that are written.
func TestKidsOfOthers(t *testing.T) {
	n := text("x<")
	n.Kids = []api.Node{text("y"), element("b", text("z"))}
	c := comment("x<")
	c.Kids = n.Kids
	writes(t, "x&lt;<!--x<-->", n, c)
	writes(t, "<p>x&lt;<!--x<--></p>", element("p", n, c))
	writes(t, "<xmp>x<<!--x<--></xmp>", element("xmp", n, c))
}

// P9.1: nodes of no Kind and of Kinds that there are not are nothing, with all that is within them.
func TestOtherKinds(t *testing.T) {
	for _, k := range []api.NodeKind{api.NodeRoot, 4, 5, 9, 99, -1, -2, 1 << 40, -1 << 40} {
		n := with(api.Node{Kind: k, Name: "b", Text: "x", Kids: []api.Node{text("y"), element("i")}}, "k", "v")
		writes(t, "", n)
		writes(t, "", n, n)
		writes(t, "1<!--2-->", text("1"), n, comment("2"), n)
		writes(t, "<b>12</b>", element("b", n, text("1"), n, text("2")))
		writes(t, "<style></style>", element("style", n))
		writes(t, "", api.Node{Kind: k})
		writes(t, "", of(api.SpaceSvg, n))
	}
}

// P9.1, R1: as deep as a tree is read, and as deep as it may be.
func TestDeep(t *testing.T) {
	for _, many := range []int{api.MaxDeep - 1, api.MaxDeep, api.MaxDeep + 1} {
		n := text("<")
		for range many {
			n = element("div", n)
		}
		writes(t, strings.Repeat("<div>", many)+"&lt;"+strings.Repeat("</div>", many), n)
	}
	n := text("<")
	for range 1<<16 - 1 {
		n = element("b", n)
	}
	if got := Fragment([]api.Node{n}); got != strings.Repeat("<b>", 1<<16-1)+"&lt;"+strings.Repeat("</b>", 1<<16-1) {
		t.Errorf("2^16 nodes, one in the other: %d bytes", len(got))
	}
	n = text("<")
	for range 1<<16 - 1 {
		n = element("style", n)
	}
	if got := Fragment([]api.Node{n}); len(got) != (1<<16-1)*len("<style></style>")+1 {
		t.Errorf("2^16 nodes, one in the other: %d bytes", len(got))
	}
}

// P9.1: every node of few parts within every other, beside another, against the second reading.
func TestAllPairs(t *testing.T) {
	var parts []api.Node
	for _, k := range []api.NodeKind{-1, 0, 1, 2, 3, 4} {
		for _, space := range []api.Space{0, 1, 2, 3} {
			for _, name := range []string{"", "b", "br", "style", "plaintext", "title", "XMP"} {
				parts = append(parts, with(api.Node{Kind: k, Space: space, Name: name, Text: "&<\u00A0\""}, "k", "\">\u00A0", "", ""))
			}
		}
	}
	for _, a := range parts {
		for _, b := range parts {
			outer, middle := a, b
			middle.Kids = []api.Node{text("1<"), a, comment("2<")}
			outer.Kids = []api.Node{b, middle, text("3&")}
			l := []api.Node{b, outer, a}
			if got, want := Fragment(l), saidFragment(l); got != want {
				t.Fatalf("%q, not %q", got, want)
			}
		}
	}
}

// grown: a list and all in it, each with room behind its end in which something stands.
func grown(l []api.Node) []api.Node {
	out := make([]api.Node, 0, len(l)+2)
	for _, n := range l {
		n.Kids = grown(n.Kids)
		n.Attrs = append(append([]api.Attr{}, n.Attrs...), api.Attr{Name: "room", Value: "behind"})[:len(n.Attrs)]
		out = append(out, n)
	}
	return append(out, text("room"), element("behind"))[:len(l)]
}

// sameRoom: are two lists alike, with what stands behind their ends?
func sameRoom(a, b []api.Node) bool {
	if len(a) != len(b) || cap(a) != cap(b) {
		return false
	}
	return slices.EqualFunc(a[:cap(a)], b[:cap(b)], func(x, y api.Node) bool {
		return x.Kind == y.Kind && x.Space == y.Space && x.Name == y.Name && x.Text == y.Text &&
			len(x.Attrs) == len(y.Attrs) && slices.Equal(x.Attrs[:cap(x.Attrs)], y.Attrs[:cap(y.Attrs)]) && sameRoom(x.Kids, y.Kids)
	})
}

// R4, R5: what is handed in stays as it is, and is written alike when it is asked again; what is changed in it later changes no answer.
func TestListsStay(t *testing.T) {
	fresh := func() []api.Node {
		return grown([]api.Node{text("x<"), with(element("b", text("y&"), comment("c"), element("style", text("<"))), "k", "\"", "l", "<"), element("br", text("z"))})
	}
	l, again := fresh(), fresh()
	const want = `x&lt;<b k="&quot;" l="&lt;">y&amp;<!--c--><style><</style></b><br>`
	first := Fragment(l)
	if first != want || Fragment(l) != want || Fragment(again) != want {
		t.Errorf("%q", first)
	}
	if !sameRoom(l, again) {
		t.Error("what is handed in is not as it was")
	}
	l[0].Text, l[1].Name, l[1].Attrs[0].Value, l[1].Kids[0].Text = "1", "2", "3", "4"
	if first != want || Fragment(again) != want {
		t.Error("an answer hangs on what is done to its argument later")
	}
}
