package filter

import (
	"math/rand/v2"
	"slices"
	"strings"
	"testing"

	"marginalia/api"
	"marginalia/build"
	"marginalia/policy"
	"marginalia/print"
)

// promised: P12.2 and P12.3 of what is kept of a list.
func promised(t *testing.T, p api.Policy, l, kept []api.Node) {
	t.Helper()
	if !policy.Allowed(p, kept) {
		t.Fatalf("by %+v %s is kept of %s, and is not allowed", p, show(kept), show(l))
	}
	if again := Filter(p, kept); show(again) != show(kept) {
		t.Fatalf("by %+v %s is kept of %s, and of that %s", p, show(kept), show(l), show(again))
	}
	if policy.Allowed(p, l) && show(kept) != show(l) {
		t.Fatalf("%s is allowed by %+v, and kept as %s", show(l), p, show(kept))
	}
}

// P12.3: what is allowed is kept as it is.
func TestAllowedIsKept(t *testing.T) {
	p := usual()
	link := with(element("a", text("x")), "href", "https:x", "title", "", "title", "y")
	for _, l := range [][]api.Node{
		nil, list(text("x")), list(text(" ")), list(text("<\x00\xFF")), list(element("b")), list(element("b"), element("b")), list(link, link),
		list(text("x"), link, text("y")), list(element("b", link, text("x"), element("a", element("b")))), nested(3, "b", text("x")), list(element("img", text("x"), element("a", element("a")))),
	} {
		if !policy.Allowed(p, l) {
			t.Fatalf("%s is not allowed", show(l))
		}
		keeps(t, p, l, l)
	}
}

// allowedList: a list that the usual policy, of such a Deep, allows.
func allowedList(r *rand.Rand, deep int) []api.Node {
	var l []api.Node
	for range r.IntN(5) {
		if r.IntN(2) == 0 && (len(l) == 0 || l[len(l)-1].Kind != api.NodeText) {
			l = append(l, text(pick(r, "x", " ", "<", "y&")))
			continue
		}
		if deep == 0 {
			continue
		}
		n := element(pick(r, "b", "a", "img"), allowedList(r, deep-1)...)
		if n.Name != "b" && r.IntN(2) == 0 {
			n = with(n, "href", pick(r, "", "x", "https:x", "\tmailto:", "/a:b"))
		}
		l = append(l, n)
	}
	return l
}

// P12.3: many lists that are allowed.
func TestManyAllowed(t *testing.T) {
	r := rand.New(rand.NewPCG(12, 2))
	for range 8000 {
		p := usual()
		p.Deep = 1 + r.IntN(6)
		l := allowedList(r, p.Deep)
		if !policy.Allowed(p, l) {
			t.Fatalf("%s is not allowed", show(l))
		}
		keeps(t, p, l, l)
	}
}

// seen: the texts of a list, one behind the other, but those within what is read as it stands, and within what is not of SpaceHtml; gone: those too.
func seen(l []api.Node, gone bool) string {
	s := ""
	for _, n := range l {
		foreign := n.Kind != api.NodeElement || n.Space != api.SpaceHtml
		raw := slices.Contains(words(saidGone), n.Name)
		if n.Kind == api.NodeText {
			s += n.Text
		} else if gone || !foreign && !raw {
			s += seen(n.Kids, gone)
		}
	}
	return s
}

// P12.4: without rules and Drops no element is kept, and all texts but those.
func TestTextsOnly(t *testing.T) {
	check := func(l []api.Node) {
		for _, p := range []api.Policy{{Deep: 1}, {Deep: 60}, {Deep: 2, Links: words("href"), Schemes: words("https")}} {
			want := list(text(seen(l, false)))
			if want[0].Text == "" {
				want = nil
			}
			keeps(t, p, l, want)
		}
	}
	for _, n := range pieces() {
		check(list(n))
		check(list(text("1"), n, text("2")))
		check(list(element("p", n), n, element("b", element("div", n), n)))
	}
	r := rand.New(rand.NewPCG(12, 3))
	differ := 0
	for range 10000 {
		l := anyList(r, 4)
		check(l)
		if seen(l, false) != seen(l, true) {
			differ++
		}
	}
	if differ < 2500 {
		t.Errorf("only %d lists had texts that go", differ)
	}
}

// P12.1, P12.2, P12.3: what is kept of HTML that is read.
func TestOfHtml(t *testing.T) {
	p := usual()
	for _, x := range [][2]string{
		{"", ""}, {"x", "x"}, {"<b>x", "<b>x</b>"}, {"<i>x", "x"}, {"<b onclick=x>hi</b>", "<b>hi</b>"},
		{"<p>1<b>2<p>3", "1<b>2</b><b>3</b>"}, {"1<!--2-->3<?4>5", "135"}, {"1<form>2<b>3</b></form>4", "14"}, {"1<form>2<b>3</form>4", "1<b>4</b>"},
		{"1<script>2</script>3<style>4</style>5<xmp>6</xmp>7<iframe>8</iframe>9<noembed>a</noembed>b<noframes>c</noframes>d<plaintext>e</plaintext>", "13579bd"},
		{"<svg><a>z</a><desc><b>y</b></desc></svg>x", "x"}, {"<math><mi>x<b>y</b></mi></math>z", "z"}, {"<math><mi><i>x</i></mi></math>z", "z"},
		{"<table><tr><td>1<td><b>2</table>3", "1<b>2</b>3"}, {"<textarea><b></textarea><title><i></title>", "&lt;b&gt;&lt;i&gt;"},
		{"<a href=https:x title=y rel=z>1</a><a href=' java&Tab;script:x'>2", "<a href=\"https:x\" title=\"y\">1</a><a>2</a>"},
		{"<img src=http:x alt=y><img src=x>", "<img alt=\"y\"><img src=\"x\">"}, {"<b><b><b><b>x", "<b><b><b>x</b></b></b>"},
		{"<template>1<b>2</b></template>3", "1<b>2</b>3"}, {"<ul><li>1<li>2</ul>", "12"}, {"a<br>b", "ab"},
	} {
		l, e := build.Fragment(x[0])
		if e != api.OK {
			t.Fatalf("%q: %d", x[0], e)
		}
		if got := print.Fragment(held(t, p, l)); got != x[1] {
			t.Errorf("%q: %q; want %q", x[0], got, x[1])
		}
	}
	r := rand.New(rand.NewPCG(12, 4))
	tags := words("<b> </b> <i> </i> <p> </p> <a_href=java:x> <a_href=x> </a> <form> </form> <script> </script> <svg> </svg> <math> <mi> </math> <table> <tr> <td> </table> <img_alt=x_on=y> <!--x--> x y &lt; <plaintext> <textarea> </textarea> <button> <b_title=x>")
	for range 20000 {
		s := ""
		for range r.IntN(20) {
			s += strings.ReplaceAll(pick(r, tags...), "_", " ")
		}
		if l, e := build.Fragment(s); e == api.OK {
			p.Deep = 1 + r.IntN(4)
			held(t, p, l)
		}
	}
}
