package policy

import (
	"fmt"
	"math/rand/v2"
	"regexp"
	"strings"
	"testing"

	"marginalia/api"
)

// A second reading of the chapter: patterns for names and lines, counts for what may be there once, and of a node what stands around it.

const (
	rawNames   = "iframe noembed noframes script style xmp"
	neverNames = rawNames + " textarea title body frame frameset head html caption col colgroup tbody td tfoot th thead tr math noscript plaintext svg template"
)

var (
	saidName    = regexp.MustCompile(`^[a-z][a-z0-9-]{0,19}$`)
	saidOn      = regexp.MustCompile(`^(on.*|style|srcdoc)$`)
	saidDeep    = regexp.MustCompile(`^ *deep +([0-9]|[1-9][0-9]) *$`)
	saidElement = regexp.MustCompile(`^ *element +([^ ]+)((?: +[^ ]+)*) *$`)
	saidNames   = regexp.MustCompile(`^ *(link|scheme|drop)((?: +[^ ]+)*) *$`)
	saidNothing = regexp.MustCompile(`^(#(?s:.*)| *)$`)
	saidScheme  = regexp.MustCompile(`^([A-Za-z][A-Za-z0-9+.-]*):`)
)

func listed(words, name string) bool {
	return name != "" && strings.Contains(" "+words+" ", " "+name+" ")
}

func count(l []string, name string) int {
	n := 0
	for _, x := range l {
		if x == name {
			n++
		}
	}
	return n
}

func saidCheck(p api.Policy) api.Errno {
	large, wrong := len(p.Rules) > 40, p.Deep < 1 || p.Deep > 60
	look := func(l []string) {
		large = large || len(l) > 20
		for _, x := range l {
			wrong = wrong || !saidName.MatchString(x) || count(l, x) != 1
		}
	}
	look(p.Links)
	look(p.Schemes)
	look(p.Drops)
	var names []string
	for _, r := range p.Rules {
		look(r.Attrs)
		names = append(names, r.Name)
		for _, a := range r.Attrs {
			wrong = wrong || saidOn.MatchString(a)
		}
	}
	for _, x := range names {
		wrong = wrong || !saidName.MatchString(x) || count(names, x) != 1 || count(p.Drops, x) != 0 || listed(neverNames, x)
	}
	for _, x := range p.Schemes {
		wrong = wrong || listed("data javascript vbscript", x)
	}
	if large {
		return 4
	}
	if wrong {
		return 1
	}
	return 0
}

// saidLine: what a line says beside what is said ahead of it; false: something else.
func saidLine(p api.Policy, line string) (api.Policy, bool) {
	if saidNothing.MatchString(line) {
		return p, true
	}
	if m := saidDeep.FindStringSubmatch(line); m != nil {
		_, err := fmt.Sscan(m[1], &p.Deep)
		return p, err == nil
	}
	words := func(s string) []string { return strings.Split(strings.Trim(squeezed(s), " "), " ") }
	if m := saidElement.FindStringSubmatch(line); m != nil {
		r := api.Rule{Name: m[1]}
		if m[2] != "" {
			r.Attrs = words(m[2])
		}
		p.Rules = append(p.Rules, r)
		return p, true
	}
	m := saidNames.FindStringSubmatch(line)
	if m == nil {
		return p, false
	}
	if m[2] != "" {
		l := map[string]*[]string{"link": &p.Links, "scheme": &p.Schemes, "drop": &p.Drops}[m[1]]
		*l = append(*l, words(m[2])...)
	}
	return p, true
}

// squeezed: with one blank where there are several.
func squeezed(s string) string {
	for strings.Contains(s, "  ") {
		s = strings.ReplaceAll(s, "  ", " ")
	}
	return s
}

func saidParse(s string) (api.Policy, int, api.Errno) {
	if len(s) > 2000 {
		return api.Policy{}, 0, 4
	}
	var p api.Policy
	lines := strings.SplitAfter(s, "\n")
	for i, line := range lines {
		var ok bool
		if p, ok = saidLine(p, strings.TrimSuffix(line, "\n")); !ok {
			return api.Policy{}, i + 1, 7
		}
	}
	if e := saidCheck(p); e != 0 {
		return api.Policy{}, 0, e
	}
	return p, 0, 0
}

func saidPrint(p api.Policy) (string, api.Errno) {
	if e := saidCheck(p); e != 0 {
		return "", e
	}
	s := fmt.Sprintf("deep %d\n", p.Deep)
	for _, r := range p.Rules {
		s += strings.TrimSuffix("element "+r.Name+" "+strings.Join(r.Attrs, " "), " ") + "\n"
	}
	for i, l := range [][]string{p.Links, p.Schemes, p.Drops} {
		if len(l) > 0 {
			s += []string{"link", "scheme", "drop"}[i] + " " + strings.Join(l, " ") + "\n"
		}
	}
	return s, 0
}

func saidElementLet(p api.Policy, name string) bool {
	for _, r := range p.Rules {
		if r.Name == name {
			return saidCheck(p) == 0
		}
	}
	return false
}

func saidAttr(p api.Policy, name string, a api.Attr) bool {
	for _, r := range p.Rules {
		if r.Name == name && count(r.Attrs, a.Name) > 0 {
			return saidCheck(p) == 0 && (count(p.Links, a.Name) == 0 || saidSafe(a.Value, p.Schemes))
		}
	}
	return false
}

func saidSafe(link string, schemes []string) bool {
	link = strings.TrimLeftFunc(link, func(r rune) bool { return r <= 32 })
	link = strings.NewReplacer("\t", "", "\n", "", "\r", "").Replace(link)
	m := saidScheme.FindStringSubmatch(link)
	return m == nil || count(schemes, strings.ToLower(m[1])) > 0
}

// saidAllowed: each node by itself, with the one that stands ahead of it and with how many elements are around it.
func saidAllowed(p api.Policy, l []api.Node, around int) bool {
	ok := saidCheck(p) == 0
	for i, n := range l {
		switch n.Kind {
		case 2:
			ok = ok && len(n.Text) > 0 && len(n.Name)+len(n.Attrs)+len(n.Kids)+int(n.Space) == 0 && n.Space == 0
			ok = ok && (i == 0 || l[i-1].Kind != 2)
		case 1:
			ok = ok && n.Space == 0 && n.Text == "" && saidElementLet(p, n.Name) && around+1 <= p.Deep
			for _, a := range n.Attrs {
				ok = ok && saidAttr(p, n.Name, a)
			}
			ok = ok && saidAllowed(p, n.Kids, around+1)
		default:
			ok = false
		}
	}
	return ok
}

// show: a policy, told so that two that differ are told differently; nil and the empty list are the same.
func show(p api.Policy) string {
	s := fmt.Sprintf("{%d links %q schemes %q drops %q", p.Deep, p.Links, p.Schemes, p.Drops)
	for _, r := range p.Rules {
		s += fmt.Sprintf(" rule %q %q", r.Name, r.Attrs)
	}
	return s + "}"
}

func samePolicy(a, b api.Policy) bool { return show(a) == show(b) }

// heldText: a text, parsed as the second reading parses it.
func heldText(t *testing.T, s string) {
	t.Helper()
	p, n, e := Parse(s)
	wp, wn, we := saidParse(s)
	if n != wn || e != we || !samePolicy(p, wp) {
		t.Fatalf("Parse(%q): %s, %d, %d; want %s, %d, %d", s, show(p), n, e, show(wp), wn, we)
	}
}

// heldPolicy: a policy, checked and printed as the second reading does it.
func heldPolicy(t *testing.T, p api.Policy) {
	t.Helper()
	if got, want := Check(p), saidCheck(p); got != want {
		t.Fatalf("Check(%s): %d; want %d", show(p), got, want)
	}
	s, e := Print(p)
	if ws, we := saidPrint(p); s != ws || e != we {
		t.Fatalf("Print(%s): %q, %d; want %q, %d", show(p), s, e, ws, we)
	}
}

// heldLet: what a policy lets of names and attributes, as the second reading has it.
func heldLet(t *testing.T, p api.Policy, name string, a api.Attr) {
	t.Helper()
	if got, want := Element(p, name), saidElementLet(p, name); got != want {
		t.Fatalf("Element(%s, %q): %v", show(p), name, got)
	}
	if got, want := Attr(p, name, a), saidAttr(p, name, a); got != want {
		t.Fatalf("Attr(%s, %q, %q): %v", show(p), name, a, got)
	}
}

func heldList(t *testing.T, p api.Policy, l []api.Node) {
	t.Helper()
	if got, want := Allowed(p, l), saidAllowed(p, l, 0); got != want {
		t.Fatalf("Allowed(%s, %+v): %v", show(p), l, got)
	}
}

// longer: the text, and all that begin with it and have up to so many of the pieces more.
func longer(t *testing.T, text string, pieces []string, more int) {
	heldText(t, text)
	if more == 0 {
		return
	}
	for _, x := range pieces {
		longer(t, text+x, pieces, more-1)
	}
}

// P11.1: all short texts of these pieces.
func TestAllShortTexts(t *testing.T) {
	longer(t, "", []string{"deep", "0", "3", " ", "\n", "#", "x"}, 6)
	longer(t, "", []string{"deep 3", "element", "link", "scheme", "drop", " b", " ", "\n"}, 5)
	longer(t, "deep 2\n", []string{"element b", "element a", "link", "drop", " a", " b", " on", "\n"}, 5)
	longer(t, "deep 9\n", []string{"element", "scheme", " data", " style", " td", " \t", " é", "\r", "\n"}, 5)
}

// pick: one of the words.
func pick(r *rand.Rand, words ...string) string { return words[r.IntN(len(words))] }

// anyLine: a line that most of the time says something.
func anyLine(r *rand.Rand) string {
	name := func() string {
		if r.IntN(30) == 0 {
			return pick(r, "script", "on", "style", "data", "A", "1", "é", "\t", "", "#", "javascript", strings.Repeat("x", 21))
		}
		return pick(r, "a", "b", "i", "p", "q", "h1", "href", "src", "title", "alt", "https", "http", "mailto") + pick(r, "", "", "1", "-", "x", "7z")
	}
	blanks := func() string { return strings.Repeat(" ", 1+r.IntN(2)*r.IntN(3)) }
	line := strings.Repeat(" ", r.IntN(2)*r.IntN(3))
	switch r.IntN(16) {
	case 0:
		return pick(r, "# "+name(), "#", "", " ", "  ")
	case 1, 2:
		return line + "deep" + blanks() + pick(r, "1", "5", "9", "10", "42", "60", "2", "3", "61", "0")
	case 3:
		if r.IntN(4) == 0 {
			return line + pick(r, "deep", "deep 03", "deep 1 2", "element", "x", "#", "Deep 1", "deep\t1", "elements b", "lin k")
		}
	}
	line += pick(r, "element", "element", "link", "scheme", "drop")
	for range 1 + r.IntN(4) {
		line += blanks() + name()
	}
	return line + strings.Repeat(" ", r.IntN(2))
}

// P11.1: many longer texts; enough of them are policies, and enough are not.
func TestManyTexts(t *testing.T) {
	r := rand.New(rand.NewPCG(11, 1))
	told := map[api.Errno]int{}
	for range 60000 {
		lines := []string{"deep 7"}
		for range r.IntN(8) {
			lines = append(lines, anyLine(r))
		}
		s := strings.Join(lines, "\n") + pick(r, "", "\n", "\n\n")
		heldText(t, s)
		p, _, e := Parse(s)
		told[e]++
		heldPolicy(t, p)
	}
	if told[api.OK] < 5000 || told[api.ErrText] < 2000 || told[api.ErrArg] < 2000 {
		t.Errorf("told: %v", told)
	}
}

// P11.1: many texts of any bytes.
func TestManyBytes(t *testing.T) {
	r := rand.New(rand.NewPCG(11, 2))
	for range 60000 {
		b := []byte(anyLine(r) + "\n" + anyLine(r))
		for range r.IntN(3) {
			if len(b) > 0 {
				b[r.IntN(len(b))] = byte(r.IntN(256))
			}
		}
		heldText(t, string(b))
	}
}

// anyPolicy: a policy, most of whose parts may be.
func anyPolicy(r *rand.Rand) api.Policy {
	odd := 0
	if r.IntN(2) == 0 {
		odd = 1
	}
	name := func() string {
		if odd == 1 && r.IntN(12) == 0 {
			return pick(r, "", "A", "1a", "-a", "a_", "a b", "on", "onx", "style", "srcdoc", "data", "javascript", "vbscript", "script", "title", "td", "svg", "html", "a\n", strings.Repeat("y", 20), strings.Repeat("y", 21))
		}
		return pick(r, "a", "b", "c", "d", "e", "f", "g", "href", "src", "https", "http", "a-", "a1")
	}
	list := func() []string {
		var l []string
		for range r.IntN(4) {
			if x := name(); odd == 1 || count(l, x) == 0 {
				l = append(l, x)
			}
		}
		return l
	}
	p := api.Policy{Deep: 1 + r.IntN(60), Links: list(), Schemes: list(), Drops: list()}
	for range r.IntN(5) {
		if x := name(); odd == 1 || !saidElementLet(p, x) && count(p.Drops, x) == 0 {
			p.Rules = append(p.Rules, api.Rule{Name: x, Attrs: list()})
		}
	}
	return p
}

// P11.1: many policies, and what they let.
func TestManyPolicies(t *testing.T) {
	r := rand.New(rand.NewPCG(11, 3))
	told := map[api.Errno]int{}
	let := 0
	for range 30000 {
		p := anyPolicy(r)
		heldPolicy(t, p)
		told[Check(p)]++
		for range 6 {
			a := api.Attr{Name: pick(r, "a", "b", "c", "href", "src", "on", ""), Value: pick(r, "", "x", "a:", "https:x", " HT\ttps:", "javascript:x", "b:c", "/a:")}
			name := pick(r, "a", "b", "c", "d", "script", "")
			heldLet(t, p, name, a)
			if Attr(p, name, a) {
				let++
			}
		}
	}
	if told[api.OK] < 5000 || told[api.ErrArg] < 5000 || let < 500 {
		t.Errorf("told %v, let %d", told, let)
	}
}
