package print

import (
	"math/rand/v2"
	"strings"
	"testing"

	"marginalia/api"
	"marginalia/build"
	"marginalia/charref"
)

// P9.2: what stands in a written tree is decoded as it was.
func TestThereAndBack(t *testing.T) {
	for _, s := range []string{"", "x", "&", "&amp;", "&lt", "&ltx", "&lt=", "<b>", "\"'", "\u00A0", "\xC2\xC2\xA0\xA0", "\xFF", "\x00\r\n", "&#38;&#x;", "a&b<c>d\"e\u00A0f"} {
		checkBack(t, s)
		w := Fragment([]api.Node{text(s)})
		if got := charref.Decode(w, false); got != s || strings.Contains(w, "<") {
			t.Errorf("the text %q is written as %q, decoded as %q", s, w, got)
		}
		w = Fragment([]api.Node{with(element("br"), "k", s)})
		w = strings.TrimSuffix(strings.TrimPrefix(w, `<br k="`), `">`)
		if got := charref.Decode(w, true); got != s || strings.ContainsAny(w, `<"`) {
			t.Errorf("the value %q is written as %q, decoded as %q", s, w, got)
		}
	}
}

// readAgain: P9.3 of a tree.
func readAgain(t *testing.T, l []api.Node) {
	t.Helper()
	s := Fragment(l)
	got, e := build.Fragment(s)
	if e != api.OK || !build.Same(got, l) {
		t.Fatalf("%q is read as %q (%d)", s, Fragment(got), e)
	}
	if again := Fragment(got); again != s {
		t.Fatalf("%q, read again, is written as %q", s, again)
	}
}

// values: texts that are not empty, with what might be read as something else.
func values() []string {
	return []string{"x", " ", "\n", "\nx", "&", "&amp;", "&lt", "<", ">", "\"", "'", "</div>", "<span>", "<!--", "-->", "]]>", "<![CDATA[", "<script>", "\u00A0", "\xC2", "\xA0", "\xC2\xC2\xA0", "\xFF", "\x00", "\r", "\r\n", "=", "/", "/>", "\u00e4", "&#38;", "&copy=", "&nbsp"}
}

// tree: a tree of div and span, with up to many nodes in each list, so deep at most.
func tree(r *rand.Rand, many, deep int) []api.Node {
	all := values()
	var l []api.Node
	for range r.IntN(many + 1) {
		if r.IntN(3) == 0 && (len(l) == 0 || l[len(l)-1].Kind != api.NodeText) {
			l = append(l, text(all[r.IntN(len(all))]+all[r.IntN(len(all))]))
			continue
		}
		if deep == 0 {
			continue
		}
		n := element([]string{"div", "span"}[r.IntN(2)], tree(r, many, deep-1)...)
		for _, name := range []string{"k", "href", "onclick", "xmlns", "z"} {
			if r.IntN(4) == 0 {
				n.Attrs = append(n.Attrs, api.Attr{Name: name, Value: all[r.IntN(len(all))]})
			}
		}
		r.Shuffle(len(n.Attrs), func(i, j int) { n.Attrs[i], n.Attrs[j] = n.Attrs[j], n.Attrs[i] })
		l = append(l, n)
	}
	return l
}

// P9.3: trees of div and span, with each text and value, are read again as they were.
func TestReadAgain(t *testing.T) {
	readAgain(t, nil)
	for _, name := range []string{"div", "span"} {
		readAgain(t, []api.Node{element(name)})
		readAgain(t, []api.Node{with(element(name), "k", "", "l", "")})
		for _, s := range values() {
			readAgain(t, []api.Node{text(s)})
			readAgain(t, []api.Node{text(s), element(name, text(s)), text(s)})
			readAgain(t, []api.Node{with(element(name, text(s)), "k", s)})
			readAgain(t, []api.Node{with(element(name), "a", s, "b", s, "c", s+s)})
			readAgain(t, []api.Node{element(name, element("div", text(s)), element("span"), text(s), element("div"))})
		}
	}
	for c := range 256 {
		s := string([]byte{byte(c)})
		readAgain(t, []api.Node{text(s), with(element("div", text("x"+s)), "k", s, "l", s+"x"), text(s + s)})
	}
	r := rand.New(rand.NewPCG(9, 3))
	tried, most := 0, 0
	for range 4000 {
		l := tree(r, 4, 9)
		if len(Fragment(l)) <= api.MaxInput {
			tried, most = tried+1, max(most, build.Many(l))
			readAgain(t, l)
		}
	}
	if tried < 1000 || most < 50 {
		t.Errorf("%d tried, of %d nodes at most", tried, most)
	}
}

// P9.3: up to the limits of what is read; what is beyond them is written all the same.
func TestReadAgainLimits(t *testing.T) {
	nested := func(many int) []api.Node {
		l := []api.Node{text("&")}
		for i := range many {
			l = []api.Node{text("<"), with(element([]string{"div", "span"}[i%2], l...), "k", "\""), text(">")}
		}
		return l
	}
	readAgain(t, nested(api.MaxDeep))
	if _, e := build.Fragment(Fragment(nested(api.MaxDeep + 1))); e != api.ErrDeep {
		t.Errorf("%d deep: %d", api.MaxDeep+1, e)
	}
	readAgain(t, []api.Node{text(strings.Repeat("x", api.MaxInput))})
	readAgain(t, []api.Node{text(strings.Repeat("&", api.MaxInput/5) + "x")})
	readAgain(t, []api.Node{with(element("div"), "k", strings.Repeat("\"", 600))})
	var many []api.Node
	for range api.MaxInput / len("<div></div>x") {
		many = append(many, element("div"), text("x"))
	}
	readAgain(t, many)
}

// P9.4: two lists are written one behind the other as the two together, wherever a list is cut.
func TestPartByPart(t *testing.T) {
	check := func(l []api.Node) {
		t.Helper()
		whole := Fragment(l)
		for i := range len(l) + 1 {
			if got := Fragment(l[:i]) + Fragment(l[i:]); got != whole {
				t.Fatalf("cut at %d: %q, not %q", i, got, whole)
			}
			// And within an element, whose kids they are.
			for _, name := range []string{"b", "style"} {
				got := strings.TrimSuffix(Fragment([]api.Node{element(name, l[:i]...)}), "</"+name+">") + strings.TrimPrefix(Fragment([]api.Node{element(name, l[i:]...)}), "<"+name+">")
				if want := Fragment([]api.Node{element(name, l...)}); got != want {
					t.Fatalf("within %s, cut at %d: %q, not %q", name, i, got, want)
				}
			}
		}
	}
	check(nil)
	pieces := []api.Node{text(""), text("x<"), text("\xC2"), text("\xA0"), text("&"), text("amp;"), comment(""), comment("-"), element("b", text("y")), element("br"), element("style", text("<")), element("plaintext", text("<")), of(api.SpaceSvg, element("br")), with(element("div"), "k", "\""), {}, {Kind: 9, Text: "x"}}
	for _, a := range pieces {
		for _, b := range pieces {
			for _, c := range pieces {
				check([]api.Node{a, b, c})
			}
		}
	}
	r := rand.New(rand.NewPCG(9, 4))
	for range 500 {
		check(tree(r, 6, 3))
	}
}
