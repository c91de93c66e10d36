package filter

import (
	"fmt"
	"testing"

	"marginalia/api"
)

// roomy: a tree and a policy whose lists have room behind their ends, where something lies that would be kept; told: all of that, room too.
func roomy() (p api.Policy, l []api.Node, told func() string) {
	attrs := []string{"href", "title", "x"}
	rules := []api.Rule{{Name: "b"}, {Name: "a", Attrs: attrs[:2]}, {Name: "i"}}
	links, schemes, drops := []string{"href", "title"}, []string{"https", "http"}, []string{"form", "u"}
	p = api.Policy{Deep: 3, Rules: rules[:2], Links: links[:1], Schemes: schemes[:1], Drops: drops[:1]}
	own := []api.Attr{{Name: "href", Value: "https:x"}, {Name: "x"}, {Name: "href", Value: "http:x"}, {Name: "title", Value: "t"}, {Name: "title", Value: "room"}}
	inner := []api.Node{text("1"), element("s", text("2")), text("3"), text("room"), element("b")}
	kids := []api.Node{text("x"), {Kind: api.NodeElement, Name: "b", Kids: inner[:3]}, text("y"), text(""), text("z"), text("room"), element("b")}
	nodes := []api.Node{{Kind: api.NodeElement, Name: "a", Attrs: own[:4], Kids: kids[:5]}, text("5"), element("u", text("6")), element("form", text("7")), text("8"), text("room"), element("b")}
	told = func() string {
		return fmt.Sprintf("%q %v %q %q %q %v %s", attrs, rules, links, schemes, drops, own, show(inner)+show(kids)+show(nodes))
	}
	return p, nodes[:5], told
}

// rest: what is kept of that.
const rest = `[{1 0 "a" [{"href" "https:x"} {"title" "t"}] "" [{2 0 "" [] "x" []}{1 0 "b" [] "" [{2 0 "" [] "123" []}]}{2 0 "" [] "yz" []}]}{2 0 "" [] "568" []}]`

// overwrite: all lists of an answer, and the room behind them.
func overwrite(l []api.Node) {
	for _, n := range l {
		overwrite(n.Kids)
		attrs := n.Attrs[:cap(n.Attrs)]
		for i := range attrs {
			attrs[i] = api.Attr{Name: "written", Value: "written"}
		}
	}
	l = l[:cap(l)]
	for i := range l {
		l[i] = api.Node{Kind: api.NodeText, Text: "written"}
	}
}

// R4: what is handed in stays as it was, the room behind it too, and what lies there is not read; also where what is answered is written over.
func TestHandedIn(t *testing.T) {
	p, l, told := roomy()
	before := told()
	got := Filter(p, l)
	if show(got) != rest {
		t.Errorf("kept: %s", show(got))
	}
	if told() != before {
		t.Errorf("what was handed in is now %s; it was %s", told(), before)
	}
	overwrite(got)
	if told() != before {
		t.Errorf("written over, what was handed in is now %s; it was %s", told(), before)
	}
	// R5, and no answer hangs on another.
	if again := Filter(p, l); show(again) != rest {
		t.Errorf("the next answer: %s", show(again))
	}
}

// R4: also what is kept as it is is new memory.
func TestKeptApart(t *testing.T) {
	p, l, _ := roomy()
	first := Filter(p, l)
	second := Filter(p, first)
	third := Filter(p, first)
	overwrite(second)
	if show(first) != rest || show(third) != rest {
		t.Errorf("written over: %s, %s", show(first), show(third))
	}
	overwrite(first)
	if show(third) != rest {
		t.Errorf("written over: %s", show(third))
	}
	// What is handed in may change behind the call.
	p, l, _ = roomy()
	got := Filter(p, l)
	overwrite(l)
	p.Rules[0].Name, p.Drops[0] = "q", "q"
	if show(got) != rest {
		t.Errorf("what was answered is now %s", show(got))
	}
}

// R4: no two lists of one answer share memory, room and all.
func TestListsApart(t *testing.T) {
	p := usual()
	n := with(element("a", text("x"), element("b"), text("y")), "href", "x", "title", "y", "title", "z")
	l := list(n, n, element("i", n, text("z"), n), element("b", n, n))
	var lists []*api.Node
	var gather func(l []api.Node)
	gather = func(l []api.Node) {
		for i := range l {
			lists = append(lists, &l[i])
			gather(l[i].Kids)
		}
	}
	got := Filter(p, l)
	gather(got)
	before := show(got)
	for _, n := range lists {
		kids, attrs := n.Kids[len(n.Kids):cap(n.Kids)], n.Attrs[len(n.Attrs):cap(n.Attrs)]
		for i := range kids {
			kids[i] = text("written")
		}
		for i := range attrs {
			attrs[i] = api.Attr{Name: "written"}
		}
		if show(got) != before {
			t.Fatalf("written behind a list: %s", show(got))
		}
		for i := range n.Attrs {
			kept := n.Attrs[i].Value
			n.Attrs[i].Value = "written"
			count := 0
			for _, m := range lists {
				for _, a := range m.Attrs {
					if a.Value == "written" {
						count++
					}
				}
			}
			if count != 1 {
				t.Fatalf("%d attributes change with one", count)
			}
			n.Attrs[i].Value = kept
		}
	}
	if roots := got[:cap(got)]; len(lists) != 26 || len(roots) < len(got) {
		t.Errorf("%d nodes", len(lists))
	}
}

// R5: asked again, and after others, the answer is as before.
func TestAnsweredAlike(t *testing.T) {
	wrong := usual()
	wrong.Deep = 0
	var first []string
	for round := range 3 {
		at := 0
		for _, p := range []api.Policy{usual(), wrong, {Deep: 1}} {
			for _, n := range pieces() {
				told := show(Filter(p, list(n, n)))
				if round == 0 {
					first = append(first, told)
				} else if first[at] != told {
					t.Errorf("%s, and then %s", first[at], told)
				}
				at++
			}
		}
	}
}
