package policy

import (
	"fmt"
	"math/rand/v2"
	"strings"
	"testing"

	"marginalia/api"
)

// back: P11.2 of a policy: what is printed of it is parsed as it was, and printed as that again; true: it was printed in at most MaxPolicy bytes.
func back(t *testing.T, p api.Policy) bool {
	t.Helper()
	s, e := Print(p)
	if e != api.OK {
		return false
	}
	q, n, e := Parse(s)
	if len(s) > api.MaxPolicy {
		if e != api.ErrLarge || n != 0 {
			t.Fatalf("%d bytes are parsed: %d, %d", len(s), n, e)
		}
		return false
	}
	if e != api.OK || n != 0 || !samePolicy(p, q) {
		t.Fatalf("%s is printed as %q, and parsed as %s, %d, %d", show(p), s, show(q), n, e)
	}
	if again, e := Print(q); again != s || e != api.OK {
		t.Fatalf("%q is printed again as %q, %d", s, again, e)
	}
	return true
}

// P11.2: policies with none, one and many of each, at their edges.
func TestThereAndBack(t *testing.T) {
	for n := 1; n <= api.MaxDeep; n++ {
		if !back(t, deep(n)) {
			t.Fatalf("deep %d is not printed", n)
		}
	}
	long := func(n int) []string {
		var l []string
		for i := range n {
			l = append(l, fmt.Sprintf("%s%02d", strings.Repeat("x", api.MaxName-2), i))
		}
		return l
	}
	for _, n := range []int{0, 1, 2, 19, 20} {
		for _, l := range [][]string{wide(n), long(n)} {
			for _, p := range []api.Policy{{Deep: 1, Links: l}, {Deep: 1, Schemes: l}, {Deep: 1, Drops: l}, {Deep: 1, Links: l, Schemes: l, Drops: l}, {Deep: 60, Rules: []api.Rule{{Name: "b", Attrs: l}, {Name: "i"}}}, {Deep: 60, Rules: []api.Rule{{Name: "i"}, {Name: "b", Attrs: l}}, Drops: l}} {
				if !back(t, p) {
					t.Fatalf("%s is not printed", show(p))
				}
			}
		}
	}
	for n := range api.MaxRules + 1 {
		if !back(t, api.Policy{Deep: 1, Rules: rules(n)}) {
			t.Fatalf("%d rules are not printed", n)
		}
	}
	back(t, usual())
	back(t, api.Policy{Deep: 1, Rules: []api.Rule{{Name: "deep", Attrs: list("element link")}, {Name: "element", Attrs: list("deep")}, {Name: "link"}}, Links: list("scheme drop"), Schemes: list("link"), Drops: list("drop")})
}

// P11.1, P11.2: just MaxPolicy bytes are printed and parsed; what is printed in more is not parsed, for Parse says so.
func TestBackAtTheEdge(t *testing.T) {
	p := api.Policy{Deep: 1}
	for i := range 9 {
		r := api.Rule{Name: fmt.Sprintf("e%d", i)}
		for j := range 20 {
			r.Attrs = append(r.Attrs, fmt.Sprintf("attr-%04d", j))
		}
		p.Rules = append(p.Rules, r)
	}
	sizes := map[int]bool{}
	for grow := range 10 * 20 {
		s, e := Print(p)
		if e != api.OK {
			t.Fatalf("%s: %d", show(p), e)
		}
		if got, want := back(t, p), len(s) <= api.MaxPolicy; got != want {
			t.Fatalf("of %d bytes: %v", len(s), got)
		}
		sizes[len(s)] = true
		p.Rules[8].Attrs[grow%20] += "x"
	}
	if !sizes[api.MaxPolicy-1] || !sizes[api.MaxPolicy] || !sizes[api.MaxPolicy+1] {
		t.Error("no policy came to the edge")
	}
}

// P11.2: many policies; and what is parsed of many texts is printed and parsed as it was.
func TestManyBack(t *testing.T) {
	r := rand.New(rand.NewPCG(11, 5))
	had := 0
	for range 30000 {
		if back(t, anyPolicy(r)) {
			had++
		}
		lines := []string{"deep 7"}
		for range r.IntN(8) {
			lines = append(lines, anyLine(r))
		}
		if p, _, e := Parse(strings.Join(lines, "\n")); e == api.OK {
			had++
			back(t, p)
		}
	}
	if had < 10000 {
		t.Errorf("only %d policies", had)
	}
}

// never: P11.3 of a policy.
func never(t *testing.T, p api.Policy) {
	t.Helper()
	attrs := []api.Attr{{Name: "on"}, {Name: "onclick", Value: "x"}, {Name: "onx"}}
	for _, r := range p.Rules {
		for _, a := range r.Attrs {
			if strings.HasPrefix(a, "on") {
				attrs = append(attrs, api.Attr{Name: a})
			}
		}
	}
	for _, name := range append(list(rawNames), "b", "a", "x") {
		if listed(rawNames, name) && (Element(p, name) || Allowed(p, []api.Node{element(name)}) || Allowed(p, []api.Node{element("b", element(name))})) {
			t.Fatalf("%s lets %q", show(p), name)
		}
		for _, a := range attrs {
			if Attr(p, name, a) || Allowed(p, []api.Node{with(element(name), a.Name, a.Value)}) {
				t.Fatalf("%s lets %q in %q", show(p), a, name)
			}
		}
		for _, link := range p.Links {
			for _, value := range []string{"javascript:x", "JAVASCRIPT:", " \x00java\tscr\r\nipt:x", "j\na\nv\na\ns\nc\nr\ni\np\nt\n:"} {
				if Attr(p, name, api.Attr{Name: link, Value: value}) || Allowed(p, []api.Node{with(element(name), link, value)}) {
					t.Fatalf("%s lets %q of %q in %q", show(p), value, link, name)
				}
			}
		}
	}
}

// P11.3: policies that try to let what no policy lets, in each place where they could, and with as much as there may be around it.
func TestNever(t *testing.T) {
	for _, name := range list(rawNames) {
		for n := range api.MaxRules {
			p := api.Policy{Deep: 60, Rules: append(rules(n), api.Rule{Name: name, Attrs: list("x")})}
			never(t, p)
			if Check(p) != api.ErrArg {
				t.Fatalf("%s may be", show(p))
			}
		}
	}
	for _, name := range list("on onclick onx on-1 style srcdoc") {
		for n := range api.MaxNames {
			p := api.Policy{Deep: 60, Rules: []api.Rule{{Name: "b"}, {Name: "a", Attrs: append(wide(n), name)}, {Name: "x"}}}
			never(t, p)
			if Check(p) != api.ErrArg {
				t.Fatalf("%s may be", show(p))
			}
		}
	}
	for n := range api.MaxNames {
		for _, name := range list("javascript data vbscript https") {
			p := api.Policy{Deep: 60, Rules: []api.Rule{{Name: "b", Attrs: list("href src")}, {Name: "a", Attrs: list("href")}}, Links: list("src href"), Schemes: append(wide(n), name)}
			never(t, p)
			if (Check(p) == api.OK) != (name == "https") {
				t.Fatalf("%s: %d", show(p), Check(p))
			}
		}
	}
	r := rand.New(rand.NewPCG(11, 6))
	for range 20000 {
		never(t, anyPolicy(r))
	}
}

// inPart: P11.4 of a list that is allowed.
func inPart(t *testing.T, p api.Policy, l []api.Node) {
	t.Helper()
	for i := range len(l) + 1 {
		if !Allowed(p, l[:i]) {
			t.Fatalf("%+v is allowed by %s, and not its first %d", l, show(p), i)
		}
	}
	for _, n := range l {
		if !Allowed(p, n.Kids) {
			t.Fatalf("%+v is allowed by %s, and not what is within it", n, show(p))
		}
		inPart(t, p, n.Kids)
	}
}

// P11.4: lists of elements nested up to Deep, and many others that are allowed.
func TestInPart(t *testing.T) {
	p := usual()
	inPart(t, p, nil)
	for n := range 4 {
		inPart(t, p, append(nested(n, text("x")), element("b", text("y")), text("z"), element("a")))
	}
	r := rand.New(rand.NewPCG(11, 7))
	had := 0
	for range 30000 {
		p.Deep = 1 + r.IntN(6)
		if l := anyList(r, 100, 5); Allowed(p, l) {
			inPart(t, p, l)
			if len(l) > 1 {
				had++
			}
		}
	}
	if had < 5000 {
		t.Errorf("only %d lists", had)
	}
}
