package filter

import (
	"fmt"
	"math/rand/v2"
	"regexp"
	"slices"
	"strings"
	"testing"

	"marginalia/api"
)

// A second reading of the chapter: the tree is laid out as a row of events, those of what goes are left out, what is left is put together again.

// event is a text, the beginning of an element that is kept, or its end.
type event struct {
	what byte
	node api.Node
}

const saidGone = " iframe noembed noframes script style xmp plaintext "

var saidScheme = regexp.MustCompile(`^([A-Za-z][A-Za-z0-9+.-]*):`)

func saidRule(p api.Policy, name string) (api.Rule, bool) {
	for _, r := range p.Rules {
		if r.Name == name {
			return r, true
		}
	}
	return api.Rule{}, false
}

func saidAttrs(p api.Policy, r api.Rule, attrs []api.Attr) []api.Attr {
	var l []api.Attr
	for _, a := range attrs {
		link := strings.TrimLeftFunc(a.Value, func(r rune) bool { return r <= 32 })
		link = strings.NewReplacer("\t", "", "\n", "", "\r", "").Replace(link)
		m := saidScheme.FindStringSubmatch(link)
		safe := m == nil || slices.Contains(p.Schemes, strings.ToLower(m[1]))
		if slices.Contains(r.Attrs, a.Name) && (safe || !slices.Contains(p.Links, a.Name)) {
			l = append(l, a)
		}
	}
	return l
}

// saidEvents: what is left of a list as events; around: how many elements are kept around it.
func saidEvents(p api.Policy, l []api.Node, around int) []event {
	var all []event
	for _, n := range l {
		if n.Kind == 2 {
			all = append(all, event{'t', n})
		}
		if n.Kind != 1 || n.Space != 0 || slices.Contains(p.Drops, n.Name) || n.Name != "" && strings.Contains(saidGone, " "+n.Name+" ") {
			continue
		}
		r, let := saidRule(p, n.Name)
		if !let || around >= p.Deep {
			all = append(all, saidEvents(p, n.Kids, around)...)
			continue
		}
		all = append(all, event{'(', api.Node{Kind: 1, Name: n.Name, Attrs: saidAttrs(p, r, n.Attrs)}})
		all = append(all, saidEvents(p, n.Kids, around+1)...)
		all = append(all, event{what: ')'})
	}
	return all
}

// saidTree: events put together, up to the end of what they stand in, and how many that were.
func saidTree(all []event) ([]api.Node, int) {
	var l []api.Node
	for i := 0; i < len(all); i++ {
		switch all[i].what {
		case ')':
			return l, i + 1
		case '(':
			n := all[i].node
			kids, size := saidTree(all[i+1:])
			n.Kids = kids
			l = append(l, n)
			i += size
		default:
			joined := ""
			for i < len(all) && all[i].what == 't' {
				joined += all[i].node.Text
				i++
			}
			i--
			if joined != "" {
				l = append(l, api.Node{Kind: 2, Text: joined})
			}
		}
	}
	return l, len(all)
}

// saidFilter: by a policy that may be.
func saidFilter(p api.Policy, l []api.Node) []api.Node {
	kept, _ := saidTree(saidEvents(p, l, 0))
	return kept
}

// show: nodes, told with all that they have, so that two lists that differ are told differently; nil and the empty list are the same.
func show(l []api.Node) string {
	s := "["
	for _, n := range l {
		s += fmt.Sprintf("{%d %d %q %q %q %s}", n.Kind, n.Space, n.Name, n.Attrs, n.Text, show(n.Kids))
	}
	return s + "]"
}

// held: a list, filtered as the second reading has it, and all that the promises say of it.
func held(t *testing.T, p api.Policy, l []api.Node) []api.Node {
	t.Helper()
	got := Filter(p, l)
	if want := saidFilter(p, l); show(got) != show(want) {
		t.Fatalf("Filter(%+v, %s): %s; want %s", p, show(l), show(got), show(want))
	}
	promised(t, p, l, got)
	return got
}

// pieces: nodes with whatever the chapter asks of one.
func pieces() []api.Node {
	svg, math := element("b", text("s")), element("i", element("b", text("m")))
	svg.Space, math.Space = api.SpaceSvg, api.SpaceMath
	foreign := text("f")
	foreign.Space = api.SpaceSvg
	return []api.Node{
		text("x"), text(""), foreign,
		element("b", text("y")), element("i", text("z")), element("i"), element("b", element("i", text("1"), element("b", text("2")))), element("i", element("b"), text("3")),
		with(element("a", text("4")), "href", "https:x", "title", "u", "href", "java:x"),
		element("form", text("5")), element("script", text("6")), element("plaintext", element("b")), svg, math,
		{Kind: api.NodeComment, Text: "c", Kids: []api.Node{text("7")}}, {Kind: api.NodeRoot, Kids: []api.Node{element("b", text("8"))}}, {Kind: api.NodeElement, Name: "b", Text: "9"},
	}
}

// P12.1, P12.2, P12.3: all lists of up to three of these, by themselves and within what is kept and what is not, by policies that are more and less deep.
func TestAllShortLists(t *testing.T) {
	check := func(l ...api.Node) {
		for _, deep := range []int{1, 2, 60} {
			p := usual()
			p.Deep = deep
			held(t, p, l)
			held(t, p, []api.Node{text("<"), element("b", l...), text(">")})
			held(t, p, []api.Node{text("<"), element("i", l...), text(">")})
		}
		held(t, api.Policy{Deep: 1}, l)
	}
	check()
	for _, a := range pieces() {
		check(a)
		for _, b := range pieces() {
			check(a, b)
			for _, c := range pieces() {
				check(a, b, c)
			}
		}
	}
}

func pick(r *rand.Rand, l ...string) string { return l[r.IntN(len(l))] }

// anyList: nodes of all sorts, so many deep at most.
func anyList(r *rand.Rand, deep int) []api.Node {
	var l []api.Node
	for range r.IntN(5) {
		var n api.Node
		switch r.IntN(8) {
		case 0, 1:
			n = text(pick(r, "", "x", "yy", "<&", "\x00"))
		case 2:
			n = pieces()[r.IntN(len(pieces()))]
		default:
			n = element(pick(r, "b", "a", "i", "u", "img", "form", "xmp", "svg", "", "B"))
			for range r.IntN(4) {
				n = with(n, pick(r, "href", "title", "on", "src", "cite", ""), pick(r, "", "x", "https:x", "http:x", "java\tscript:x", "/x:y"))
			}
			n.Text = pick(r, "", "", "", "T")
			if r.IntN(10) == 0 {
				n.Space = api.Space(r.IntN(5) - 1)
			}
			if r.IntN(20) == 0 {
				n.Kind = api.NodeKind(r.IntN(7) - 2)
			}
		}
		if deep > 0 && n.Kids == nil {
			n.Kids = anyList(r, deep-1)
		}
		l = append(l, n)
	}
	return l
}

// P12.1, P12.2, P12.3: many trees, by policies that let and drop more and less.
func TestManyLists(t *testing.T) {
	r := rand.New(rand.NewPCG(12, 1))
	elements, joined := 0, 0
	for range 10000 {
		p := usual()
		p.Deep = 1 + r.IntN(5)
		p.Rules = p.Rules[:r.IntN(len(p.Rules)+1)]
		if r.IntN(2) == 0 {
			p.Drops = append(p.Drops, pick(r, "u", "svg", "x"))
		}
		for _, n := range held(t, p, anyList(r, 5)) {
			if n.Kind == api.NodeElement {
				elements++
			} else if len(n.Text) > 4 {
				joined++
			}
		}
	}
	if elements < 4000 || joined < 1000 {
		t.Errorf("only %d elements, and %d long texts", elements, joined)
	}
}
