package policy

import (
	"fmt"
	"math"
	"slices"
	"strings"
	"testing"

	"marginalia/api"
)

// wide: so many names, none twice, that may be everywhere.
func wide(n int) []string {
	var l []string
	for i := range n {
		l = append(l, fmt.Sprintf("n%d", i))
	}
	return l
}

// rules: so many rules.
func rules(n int) []api.Rule {
	var l []api.Rule
	for _, name := range wide(n) {
		l = append(l, api.Rule{Name: "r" + name})
	}
	return l
}

// places: where names stand in a policy: each makes one that has these there, beside others.
func places() map[string]func(names ...string) api.Policy {
	one := func() api.Policy {
		return api.Policy{Deep: 3, Rules: []api.Rule{{Name: "em"}, {Name: "h1", Attrs: []string{"href"}}}, Links: []string{"href"}, Schemes: []string{"https"}, Drops: []string{"form"}}
	}
	return map[string]func(names ...string) api.Policy{
		"Attrs of the first":  func(names ...string) api.Policy { p := one(); p.Rules[0].Attrs = names; return p },
		"Attrs of the second": func(names ...string) api.Policy { p := one(); p.Rules[1].Attrs = names; return p },
		"Links":               func(names ...string) api.Policy { p := one(); p.Links = names; return p },
		"Schemes":             func(names ...string) api.Policy { p := one(); p.Schemes = names; return p },
		"Drops":               func(names ...string) api.Policy { p := one(); p.Drops = names; return p },
	}
}

// named: places, and the names of rules.
func named() map[string]func(names ...string) api.Policy {
	all := places()
	all["rules"] = func(names ...string) api.Policy {
		p := api.Policy{Deep: 3, Links: []string{"href"}, Schemes: []string{"https"}, Drops: []string{"form"}}
		for _, name := range names {
			p.Rules = append(p.Rules, api.Rule{Name: name, Attrs: []string{"href"}})
		}
		return p
	}
	return all
}

// checks: a policy is told as is said, by the program and by the second reading; Print tells the same, and beside an error nothing is let.
func checks(t *testing.T, p api.Policy, want api.Errno) {
	t.Helper()
	if got := Check(p); got != want {
		t.Errorf("Check(%s): %d; want %d", show(p), got, want)
	}
	if got := saidCheck(p); got != want {
		t.Errorf("the second reading has %s as %d; want %d", show(p), got, want)
	}
	s, e := Print(p)
	if e != want || (s == "") != (want != api.OK) {
		t.Errorf("Print(%s): %q, %d; want %d", show(p), s, e, want)
	}
	if Allowed(p, nil) != (want == api.OK) {
		t.Errorf("Allowed(%s, nil): %v", show(p), want != api.OK)
	}
	for _, r := range p.Rules {
		if Element(p, r.Name) != (want == api.OK) {
			t.Errorf("Element(%s, %q): %v", show(p), r.Name, want != api.OK)
		}
		for _, a := range r.Attrs {
			if Attr(p, r.Name, api.Attr{Name: a}) != (want == api.OK) {
				t.Errorf("Attr(%s, %q, %q): %v", show(p), r.Name, a, want != api.OK)
			}
		}
	}
}

// P11.1: names of 0, 1, MaxName bytes and one more, in each place, first, between others and last.
func TestNamesBySize(t *testing.T) {
	for place, with := range named() {
		for n, want := range map[int]api.Errno{0: api.ErrArg, 1: api.OK, 2: api.OK, api.MaxName - 1: api.OK, api.MaxName: api.OK, api.MaxName + 1: api.ErrArg, 1000: api.ErrArg} {
			name := strings.Repeat("x", n)
			for _, l := range [][]string{{name}, {name, "v"}, {"v", name}, {"v", name, "w"}} {
				checks(t, with(l...), want)
			}
			if t.Failed() {
				t.Fatalf("in %s: names of %d bytes", place, n)
			}
		}
	}
	// Bytes count, not letters.
	checks(t, named()["Links"](strings.Repeat("é", 10)), api.ErrArg)
}

// P11.1: each byte first, and at each later place of names.
func TestNamesByByte(t *testing.T) {
	const first, later = "abcdefghijklmnopqrstuvwxyz", "abcdefghijklmnopqrstuvwxyz0123456789-"
	expect := func(ok bool) api.Errno {
		if ok {
			return api.OK
		}
		return api.ErrArg
	}
	for place, with := range named() {
		for i := range 256 {
			c := string([]byte{byte(i)})
			checks(t, with(c), expect(strings.Contains(first, c)))
			checks(t, with(c+"x"), expect(strings.Contains(first, c)))
			checks(t, with(c+strings.Repeat("x", api.MaxName-1)), expect(strings.Contains(first, c)))
			for _, name := range []string{"x" + c, "x" + c + "x", "xyz-" + c + "0", strings.Repeat("x", api.MaxName-1) + c, "x" + c + c} {
				checks(t, with("v", name), expect(strings.Contains(later, c)))
			}
		}
		if t.Failed() {
			t.Fatalf("in %s", place)
		}
	}
}

// P11.1: 0 rules, MaxRules and one more.
func TestRulesByCount(t *testing.T) {
	for n, want := range map[int]api.Errno{0: api.OK, 1: api.OK, api.MaxRules - 1: api.OK, api.MaxRules: api.OK, api.MaxRules + 1: api.ErrLarge, 1000: api.ErrLarge} {
		checks(t, api.Policy{Deep: 1, Rules: rules(n)}, want)
	}
}

// P11.1: lists of 0, MaxNames names and one more, in each place; all of them at once.
func TestListsByCount(t *testing.T) {
	for place, with := range places() {
		for n, want := range map[int]api.Errno{0: api.OK, 1: api.OK, api.MaxNames - 1: api.OK, api.MaxNames: api.OK, api.MaxNames + 1: api.ErrLarge, 1000: api.ErrLarge} {
			checks(t, with(wide(n)...), want)
			if t.Failed() {
				t.Fatalf("in %s: %d names", place, n)
			}
		}
	}
	full := rules(api.MaxRules)
	for i := range full {
		full[i].Attrs = wide(api.MaxNames)
	}
	p := api.Policy{Deep: api.MaxDeep, Rules: full, Links: wide(api.MaxNames), Schemes: wide(api.MaxNames), Drops: wide(api.MaxNames)}
	checks(t, p, api.OK)
	p.Rules[api.MaxRules-1].Attrs = wide(api.MaxNames + 1)
	checks(t, p, api.ErrLarge)
}

// P11.1: ErrLarge is told ahead of ErrArg, wherever the other fault is.
func TestLargeFirst(t *testing.T) {
	spoil := map[string]func(p *api.Policy){
		"Deep":            func(p *api.Policy) { p.Deep = 0 },
		"a rule's name":   func(p *api.Policy) { p.Rules = append([]api.Rule{{Name: "script"}}, p.Rules[:len(p.Rules)-1]...) },
		"an empty name":   func(p *api.Policy) { p.Rules[len(p.Rules)-1].Name = "" },
		"an attribute":    func(p *api.Policy) { p.Rules[0].Attrs = []string{"onx"} },
		"a link":          func(p *api.Policy) { p.Links = []string{"X"} },
		"a scheme":        func(p *api.Policy) { p.Schemes = []string{"javascript"} },
		"a drop":          func(p *api.Policy) { p.Drops = []string{p.Rules[0].Name} },
		"twice in a list": func(p *api.Policy) { p.Links = []string{"x", "x"} },
	}
	for what, do := range spoil {
		p := api.Policy{Deep: 1, Rules: rules(api.MaxRules + 1)}
		do(&p)
		checks(t, p, api.ErrLarge)
		p = api.Policy{Deep: 1, Rules: rules(3)}
		do(&p)
		checks(t, p, api.ErrArg)
		for _, large := range []func(p *api.Policy){
			func(p *api.Policy) { p.Rules[1].Attrs = wide(api.MaxNames + 1) },
			func(p *api.Policy) { p.Links = append(p.Links, wide(api.MaxNames+1)...) },
			func(p *api.Policy) { p.Schemes = append(p.Schemes, wide(api.MaxNames+1)...) },
			func(p *api.Policy) { p.Drops = append(p.Drops, wide(api.MaxNames+1)...) },
		} {
			p := api.Policy{Deep: 1, Rules: rules(3)}
			do(&p)
			large(&p)
			checks(t, p, api.ErrLarge)
		}
		if t.Failed() {
			t.Fatalf("with %s", what)
		}
	}
	// One name, so often that there are too many of it.
	for _, with := range places() {
		checks(t, with(slices.Repeat([]string{"x"}, api.MaxNames+1)...), api.ErrLarge)
		checks(t, with(slices.Repeat([]string{"x"}, api.MaxNames)...), api.ErrArg)
	}
}

// P11.1: Deep at its edges.
func TestDeep(t *testing.T) {
	for deep, want := range map[int]api.Errno{math.MinInt: api.ErrArg, -60: api.ErrArg, -1: api.ErrArg, 0: api.ErrArg, 1: api.OK, 2: api.OK, api.MaxDeep - 1: api.OK, api.MaxDeep: api.OK, api.MaxDeep + 1: api.ErrArg, 99: api.ErrArg, math.MaxInt: api.ErrArg} {
		checks(t, api.Policy{Deep: deep}, want)
		checks(t, api.Policy{Deep: deep, Rules: rules(2), Links: wide(2)}, want)
	}
}

// P11.1: a name twice in each list, side by side and apart; one name in several lists is none of that.
func TestTwice(t *testing.T) {
	for place, with := range named() {
		for _, l := range [][]string{{"x", "x"}, {"x", "y", "x"}, {"v", "x", "x"}, {"x", "x", "v"}, {"x", "x", "x"}, {"v", "x", "y", "z", "x", "w"}, append(wide(19), "n0"), append(wide(19), "n18")} {
			checks(t, with(l...), api.ErrArg)
		}
		for _, l := range [][]string{{"x", "y"}, {"x", "xx"}, {"xx", "x"}, {"x-", "x"}, {"x1", "x2"}, append(wide(19), "n19")} {
			checks(t, with(l...), api.OK)
		}
		if t.Failed() {
			t.Fatalf("in %s", place)
		}
	}
	all := []string{"x", "y"}
	checks(t, api.Policy{Deep: 1, Rules: []api.Rule{{Name: "b", Attrs: all}, {Name: "i", Attrs: all}}, Links: all, Schemes: all, Drops: all}, api.OK)
	checks(t, api.Policy{Deep: 1, Rules: []api.Rule{{Name: "x", Attrs: all}, {Name: "y", Attrs: all}}, Links: all, Schemes: all}, api.OK)
	// Two rules of one name, with the same Attrs and with others.
	checks(t, api.Policy{Deep: 1, Rules: []api.Rule{{Name: "b", Attrs: []string{"x"}}, {Name: "i"}, {Name: "b"}}}, api.ErrArg)
	last := append(rules(39), api.Rule{Name: "rn0"})
	checks(t, api.Policy{Deep: 1, Rules: last}, api.ErrArg)
	last[39].Name = "rn39"
	checks(t, api.Policy{Deep: 1, Rules: last}, api.OK)
}

// P11.1: no rule's Name is in Drops, whichever of them, at whichever place.
func TestNameInDrops(t *testing.T) {
	drops := []string{"x", "y", "z"}
	for _, name := range drops {
		for at := range 3 {
			l := rules(3)
			l[at].Name = name
			checks(t, api.Policy{Deep: 1, Rules: l, Drops: drops}, api.ErrArg)
			checks(t, api.Policy{Deep: 1, Rules: l, Links: drops, Schemes: drops}, api.OK)
			l[at].Name = name + name
			checks(t, api.Policy{Deep: 1, Rules: l, Drops: drops}, api.OK)
		}
	}
	// Elements that no policy lets may be dropped.
	for _, name := range strings.Fields(neverNames) {
		checks(t, api.Policy{Deep: 1, Drops: []string{name}}, api.OK)
	}
}

// P11.1: each name that no rule may have, alone and beside others; names that are nearly one may be.
func TestNeverElements(t *testing.T) {
	if n := len(strings.Fields(neverNames)); n != 6+2+5+9+5 {
		t.Fatalf("%d names", n)
	}
	for _, name := range strings.Fields(neverNames) {
		for at := range 3 {
			l := rules(3)
			l[at].Name = name
			checks(t, api.Policy{Deep: 1, Rules: l}, api.ErrArg)
		}
		for _, near := range []string{name + "x", "x" + name, name + "-", name[:len(name)-1]} {
			if !listed(neverNames, near) {
				checks(t, api.Policy{Deep: 1, Rules: []api.Rule{{Name: near}}}, api.OK)
			}
		}
		// Such a name may be an attribute's, a link's, a scheme's.
		if name != "style" {
			checks(t, api.Policy{Deep: 1, Rules: []api.Rule{{Name: "b", Attrs: []string{name}}}, Links: []string{name}, Schemes: []string{name}}, api.OK)
		}
	}
	for _, name := range strings.Fields("a b br div img li table form input button select option p h1 object embed pre listing on onclick style-x srcdoc data javascript vbscript annotation-xml image") {
		checks(t, api.Policy{Deep: 1, Rules: []api.Rule{{Name: name}}}, api.OK)
	}
}

// P11.1: each attribute that no rule may have, in each rule, at each place; what only has it within may be.
func TestNeverAttrs(t *testing.T) {
	in := func(rule, at int, name string) api.Policy {
		l := rules(3)
		l[rule].Attrs = []string{"x", "y", "z"}
		l[rule].Attrs[at] = name
		return api.Policy{Deep: 1, Rules: l}
	}
	for rule := range 3 {
		for at := range 3 {
			for _, name := range strings.Fields("on on- on1 onx onclick onerror once only onto ononononononononon style srcdoc") {
				checks(t, in(rule, at, name), api.ErrArg)
			}
			for _, name := range strings.Fields("o n no xon button icon a-on content o-n o1n styles style- style1 xstyle my-style styl tyle srcdocs srcdoc-x xsrcdoc src doc data javascript script href") {
				checks(t, in(rule, at, name), api.OK)
			}
		}
	}
	for _, name := range strings.Fields("on onclick style srcdoc") {
		checks(t, api.Policy{Deep: 1, Links: []string{name}, Schemes: []string{name}, Drops: []string{name}}, api.OK)
	}
}

// P11.1: each scheme that no policy may have, at each place; names that are nearly one, or elsewhere, may be.
func TestNeverSchemes(t *testing.T) {
	for _, name := range strings.Fields("data javascript vbscript") {
		for at := range 3 {
			l := []string{"x", "y", "z"}
			l[at] = name
			checks(t, api.Policy{Deep: 1, Schemes: l}, api.ErrArg)
		}
		for _, near := range []string{name + "x", "x" + name, name + "-", name[:len(name)-1], name[1:], name + "1"} {
			checks(t, api.Policy{Deep: 1, Schemes: []string{near}}, api.OK)
		}
		checks(t, api.Policy{Deep: 1, Rules: []api.Rule{{Name: name, Attrs: []string{name}}}, Links: []string{name}}, api.OK)
		checks(t, api.Policy{Deep: 1, Links: []string{name}, Drops: []string{name}}, api.OK)
	}
	for _, name := range strings.Fields("http https mailto ftp file blob about script on style") {
		checks(t, api.Policy{Deep: 1, Schemes: []string{name}}, api.OK)
	}
}

// R4: a policy that is nothing, and lists that are nil or empty, are told alike.
func TestNothing(t *testing.T) {
	checks(t, api.Policy{}, api.ErrArg)
	checks(t, api.Policy{Rules: []api.Rule{}, Links: []string{}, Schemes: []string{}, Drops: []string{}}, api.ErrArg)
	checks(t, api.Policy{Deep: 1}, api.OK)
	checks(t, api.Policy{Deep: 1, Rules: []api.Rule{{Name: "b", Attrs: []string{}}}, Links: []string{}, Schemes: []string{}, Drops: []string{}}, api.OK)
	checks(t, api.Policy{Deep: 1, Rules: []api.Rule{{}}}, api.ErrArg)
}

// R1: what is far too large ends too.
func TestHuge(t *testing.T) {
	const many = 1 << 20
	checks(t, api.Policy{Deep: 1, Links: make([]string, many)}, api.ErrLarge)
	if got := Check(api.Policy{Deep: 1, Rules: make([]api.Rule, many)}); got != api.ErrLarge {
		t.Errorf("%d", got)
	}
	if got := Check(api.Policy{Deep: 1, Links: []string{strings.Repeat("x", many)}}); got != api.ErrArg {
		t.Errorf("%d", got)
	}
}
