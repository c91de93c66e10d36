package opens

import (
	"math"
	"slices"
	"strings"
	"testing"

	"marginalia/api"
)

// The four scopes, and some that are none of them.
var scopes = []api.Scope{api.ScopeAll, api.ScopeList, api.ScopeButton, api.ScopeTable, 0, -1, 5, 9, math.MaxInt, math.MinInt}

// The three spaces, and some that are none of them.
var spaces = []api.Space{api.SpaceHtml, api.SpaceSvg, api.SpaceMath, 3, -1, math.MaxInt, math.MinInt}

func ofHtml(name string) api.Open { return api.Open{Space: api.SpaceHtml, Name: name} }
func ofSvg(name string) api.Open  { return api.Open{Space: api.SpaceSvg, Name: name} }
func ofMath(name string) api.Open { return api.Open{Space: api.SpaceMath, Name: name} }

// list: elements of SpaceHtml of these names, their Ids from 0 on; `svg:` or `math:` ahead of a name is its space.
func list(names string) []api.Open {
	var out []api.Open
	for i, name := range strings.Fields(names) {
		o := api.Open{Id: i, Name: name}
		if n, ok := strings.CutPrefix(name, "svg:"); ok {
			o.Space, o.Name = api.SpaceSvg, n
		}
		if n, ok := strings.CutPrefix(name, "math:"); ok {
			o.Space, o.Name = api.SpaceMath, n
		}
		out = append(out, o)
	}
	return out
}

// allNames: all that the chapters list, others, and what is nearly one of them.
func allNames() []string {
	names := []string{""}
	for _, n := range strings.Fields(svgPoints + " " + mathPoints + " " + listEnds + " " + buttonEnds + " " + impliedNames + " " + specialNames + " " + otherNames) {
		names = append(names, n, strings.ToUpper(n), strings.ToUpper(n[:1])+n[1:], n+" ", " "+n, n+"\x00", n+"x", n[1:], n[:len(n)-1], n+n)
	}
	return append(names, "foreignObject", "annotation-xml", "\xFF", "t\u0131tle", "me\u017F\u017F")
}

// P6.1: each name in each space.
func TestEachName(t *testing.T) {
	for _, name := range allNames() {
		for _, space := range spaces {
			for _, id := range []int{0, 1, -1, math.MinInt} {
				o := api.Open{Id: id, Space: space, Name: name}
				if got, want := Point(o), saidPoint(o); got != want {
					t.Fatalf("Point(%v): %v", o, got)
				}
				if got, want := Special(o), saidSpecial(o); got != want {
					t.Fatalf("Special(%v): %v", o, got)
				}
			}
		}
	}
}

// P6.1: each scope at each name in each space.
func TestEachEnd(t *testing.T) {
	for _, scope := range scopes {
		for _, name := range allNames() {
			for _, space := range spaces {
				o := api.Open{Id: 7, Space: space, Name: name}
				if got, want := Ends(o, scope), saidEnds(o, scope); got != want {
					t.Fatalf("Ends(%v, %d): %v", o, scope, got)
				}
			}
		}
	}
}

// P6.1: integration points in their own space and in the others.
func TestPoints(t *testing.T) {
	for _, name := range strings.Fields(svgPoints) {
		if !Point(ofSvg(name)) || !Special(ofSvg(name)) || Point(ofMath(name)) || Special(ofMath(name)) || Point(ofHtml(name)) {
			t.Errorf("%q of SVG", name)
		}
	}
	for _, name := range strings.Fields(mathPoints) {
		if !Point(ofMath(name)) || !Special(ofMath(name)) || Point(ofSvg(name)) || Special(ofSvg(name)) || Point(ofHtml(name)) || Special(ofHtml(name)) {
			t.Errorf("%q of MathML", name)
		}
	}
	if !Special(ofHtml("title")) || Special(ofHtml("desc")) || Special(ofHtml("foreignobject")) || Point(ofSvg("foreignObject")) || Point(ofMath("MI")) {
		t.Error("a point's name elsewhere, or with a great letter")
	}
}

// P6.1: what is special in one space is not so in another.
func TestSpecial(t *testing.T) {
	for _, name := range strings.Fields(specialNames) {
		if !Special(ofHtml(name)) || Special(ofHtml(strings.ToUpper(name))) || Special(ofMath(name)) {
			t.Errorf("%q", name)
		}
		if Special(ofSvg(name)) != (name == "title") {
			t.Errorf("%q of SVG", name)
		}
	}
	for _, name := range strings.Fields(otherNames) {
		if Special(ofHtml(name)) || Special(ofSvg(name)) || Special(ofMath(name)) {
			t.Errorf("%q is special", name)
		}
	}
}

// P6.1: where each scope ends.
func TestEnds(t *testing.T) {
	for _, x := range []struct {
		o    api.Open
		want string // in ScopeAll, ScopeList, ScopeButton, ScopeTable, another
	}{
		{ofHtml("applet"), "yyyny"}, {ofHtml("caption"), "yyyny"}, {ofHtml("html"), "yyyyy"}, {ofHtml("marquee"), "yyyny"},
		{ofHtml("object"), "yyyny"}, {ofHtml("table"), "yyyyy"}, {ofHtml("td"), "yyyny"}, {ofHtml("template"), "yyyyy"}, {ofHtml("th"), "yyyny"},
		{ofHtml("ol"), "nynnn"}, {ofHtml("ul"), "nynnn"}, {ofHtml("button"), "nnynn"},
		{ofSvg("foreignobject"), "yyyny"}, {ofSvg("desc"), "yyyny"}, {ofSvg("title"), "yyyny"},
		{ofMath("mi"), "yyyny"}, {ofMath("mo"), "yyyny"}, {ofMath("mn"), "yyyny"}, {ofMath("ms"), "yyyny"}, {ofMath("mtext"), "yyyny"},
		{ofHtml("title"), "nnnnn"}, {ofHtml("mi"), "nnnnn"}, {ofSvg("mi"), "nnnnn"}, {ofMath("desc"), "nnnnn"},
		{ofSvg("table"), "nnnnn"}, {ofMath("html"), "nnnnn"}, {ofSvg("td"), "nnnnn"}, {ofSvg("ul"), "nnnnn"}, {ofMath("button"), "nnnnn"},
		{ofHtml("TABLE"), "nnnnn"}, {ofHtml("Html"), "nnnnn"}, {ofHtml("tr"), "nnnnn"}, {ofHtml("tbody"), "nnnnn"}, {ofHtml("p"), "nnnnn"}, {ofHtml(""), "nnnnn"},
	} {
		for i, scope := range []api.Scope{api.ScopeAll, api.ScopeList, api.ScopeButton, api.ScopeTable, 0} {
			if got := Ends(x.o, scope); got != (x.want[i] == 'y') {
				t.Errorf("Ends(%v, %d): %v", x.o, scope, got)
			}
		}
	}
}

// P6.1: a scope that is none of the four is as ScopeAll.
func TestNoScope(t *testing.T) {
	for _, scope := range []api.Scope{0, -1, 5, 6, 8, 100, math.MaxInt, math.MinInt} {
		for _, o := range some() {
			if Ends(o, scope) != Ends(o, api.ScopeAll) {
				t.Errorf("Ends(%v, %d)", o, scope)
			}
		}
		if !Has(list("html td button ul p"), []string{"td"}, scope) || Has(list("html p td b"), []string{"p"}, scope) {
			t.Errorf("Has in %d", scope)
		}
	}
}

// P6.1: the chapter's example.
func TestExample(t *testing.T) {
	l := list("html table td p")
	if Has(l, []string{"table"}, api.ScopeAll) || !Has(l, []string{"table"}, api.ScopeTable) {
		t.Error("Has of table")
	}
	if n := Cut(l, []string{"table"}); n != 1 {
		t.Errorf("Cut of table: %d", n)
	}
	if n := Implied(l, ""); n != 3 {
		t.Errorf("Implied: %d", n)
	}
}

// P6.1: Has at the edges that the chapter names.
func TestHas(t *testing.T) {
	for _, x := range []struct {
		open, names string
		want        string // in ScopeAll, ScopeList, ScopeButton, ScopeTable, another
	}{
		{"html table td p", "table", "nnnyn"}, {"html table td p", "td", "yyyyy"}, {"html table td p", "p", "yyyyy"},
		{"html", "html", "yyyyy"}, {"html b", "html", "yyyyy"}, {"html", "p", "nnnnn"},
		{"html td", "td", "yyyyy"}, {"html td ul", "ul", "yyyyy"}, {"html td button", "button", "yyyyy"}, {"html table", "table", "yyyyy"}, {"html template", "template", "yyyyy"},
		{"html p td", "p", "nnnyn"}, {"html p td", "p td", "yyyyy"}, {"html p td", "td p", "yyyyy"},
		{"html li ul b", "li", "ynyyy"}, {"html li ol b", "li", "ynyyy"}, {"html p button b", "p", "yynyy"}, {"html p table b", "p", "nnnnn"},
		{"p html b", "p", "nnnnn"}, {"p template b", "p", "nnnnn"},
		{"html p svg:svg svg:title", "p", "nnnyn"}, {"html p svg:svg svg:a", "p", "yyyyy"}, {"html p math:math math:mi b", "p", "nnnyn"},
		{"html svg:p", "p", "nnnnn"}, {"html p svg:p", "p", "yyyyy"}, {"html math:p b", "p", "nnnnn"}, {"html p svg:td svg:table math:html", "p", "yyyyy"},
		{"html svg:title", "title", "nnnnn"}, {"html title svg:title", "title", "nnnyn"}, {"html title svg:title", "b", "nnnnn"},
		{"html P", "p", "nnnnn"}, {"html p", "P", "nnnnn"}, {"html p TD", "p", "yyyyy"},
		{"html p p", "p", "yyyyy"}, {"html p td p", "p", "yyyyy"}, {"html p td b", "b p", "yyyyy"},
		{"html p", "", "nnnnn"}, {"", "p", "nnnnn"}, {"", "", "nnnnn"}, {"b i p", "u", "nnnnn"}, {"b i p", "b b b", "yyyyy"},
	} {
		for i, scope := range []api.Scope{api.ScopeAll, api.ScopeList, api.ScopeButton, api.ScopeTable, 9} {
			if got := Has(list(x.open), strings.Fields(x.names), scope); got != (x.want[i] == 'y') {
				t.Errorf("Has(%q, %q, %d): %v", x.open, x.names, scope, got)
			}
		}
	}
	if !Has([]api.Open{{Name: ""}}, []string{""}, api.ScopeAll) || Has([]api.Open{{Name: ""}}, []string{"p"}, api.ScopeAll) {
		t.Error("Has of an empty name")
	}
}

// P6.2: what is found in ScopeList or ScopeButton is found in ScopeAll; not the other way.
func TestWider(t *testing.T) {
	for _, name := range strings.Fields(listEnds + " button svg:desc math:mtext svg:b b") {
		l := list("p " + name + " i")
		checkWider(t, l, []string{"p"})
		checkWider(t, l, []string{name})
		checkWider(t, l, []string{"i", "p"})
	}
	for _, x := range []struct {
		open  string
		scope api.Scope
	}{{"p ul", api.ScopeList}, {"p ol i", api.ScopeList}, {"p button", api.ScopeButton}} {
		l := list(x.open)
		if Has(l, []string{"p"}, x.scope) || !Has(l, []string{"p"}, api.ScopeAll) {
			t.Errorf("p of %q", x.open)
		}
	}
	for _, x := range []struct {
		open  string
		scope api.Scope
	}{{"p button", api.ScopeList}, {"p ul", api.ScopeButton}, {"p b i", api.ScopeList}, {"p b i", api.ScopeButton}} {
		l := list(x.open)
		if !Has(l, []string{"p"}, x.scope) || !Has(l, []string{"p"}, api.ScopeAll) {
			t.Errorf("p of %q in %d", x.open, x.scope)
		}
	}
}

// P6.1, P6.3: Cut at the edges that the chapter names.
func TestCut(t *testing.T) {
	for _, x := range []struct {
		open, names string
		want        int
	}{
		{"html table td p", "table", 1}, {"html table td p", "html", 0}, {"html table td p", "p", 3}, {"html table td p", "td table", 2}, {"html table td p", "table td", 2},
		{"p", "p", 0}, {"p b", "p", 0}, {"p p p", "p", 2}, {"p b p b", "p", 2}, {"p b p b", "b", 3}, {"p td b", "p", 0},
		{"html p svg:p", "p", 1}, {"html svg:p math:p", "p", -1}, {"html svg:title", "title", -1}, {"svg:html p", "html", -1},
		{"html P", "p", -1}, {"html p", "P", -1}, {"html p", "b", -1}, {"html p", "", -1}, {"", "p", -1}, {"", "", -1},
		{"a b c", "c b a", 2}, {"a b c", "b b", 1},
	} {
		l, names := list(x.open), strings.Fields(x.names)
		if got := Cut(l, names); got != x.want {
			t.Errorf("Cut(%q, %q): %d, not %d", x.open, x.names, got, x.want)
		}
		checkCut(t, l, names)
	}
	if n := Cut([]api.Open{{Name: "a"}, {Name: ""}, {Name: "b"}}, []string{""}); n != 1 {
		t.Errorf("Cut of an empty name: %d", n)
	}
	if n := Cut([]api.Open{{Name: "p"}, {Space: 3, Name: "p"}, {Space: -1, Name: "p"}}, []string{"p"}); n != 0 {
		t.Errorf("Cut past spaces that are none: %d", n)
	}
}

// P6.1, P6.3: Implied at the edges that the chapter names.
func TestImplied(t *testing.T) {
	for _, x := range []struct {
		open, except string
		want         int
	}{
		{"html table td p", "", 3}, {"html p", "p", 2}, {"html p li", "p", 2}, {"html li p", "li", 2}, {"html li p li", "li", 4}, {"html p p p", "", 1}, {"html p p", "p", 3},
		{"html " + impliedNames, "", 1}, {"html " + impliedNames, "rtc", 11}, {"html " + impliedNames, "dd", 2}, {"html " + impliedNames, "li", 4},
		{impliedNames, "", 0}, {impliedNames, "b", 0}, {impliedNames, "dd", 1}, {"p", "", 0}, {"p", "p", 1}, {"p", "P", 0},
		{"html svg:p", "", 2}, {"html p math:li", "", 3}, {"html svg:p p", "", 2}, {"html p svg:p p", "", 3}, {"svg:p", "p", 1},
		{"html P", "", 2}, {"html p Li", "", 3}, {"html p b", "", 3}, {"html p b p", "", 3}, {"html b", "b", 2}, {"html ruby rb rtc rt", "rtc", 4},
		{"", "", 0}, {"", "p", 0}, {"html", "", 1},
	} {
		l := list(x.open)
		if got := Implied(l, x.except); got != x.want {
			t.Errorf("Implied(%q, %q): %d, not %d", x.open, x.except, got, x.want)
		}
		checkImplied(t, l, x.except)
	}
	if n := Implied([]api.Open{{Name: "p"}, {Space: 3, Name: "p"}}, ""); n != 2 {
		t.Errorf("Implied of a space that is none: %d", n)
	}
	if n := Implied([]api.Open{{Name: "p"}, {Name: ""}}, ""); n != 2 {
		t.Errorf("Implied of one without a name: %d", n)
	}
}

// P6.1, P6.3: Implied of each name alone and last, excepted and not.
func TestEachImplied(t *testing.T) {
	for _, name := range allNames() {
		for _, space := range spaces {
			l := []api.Open{{Name: "html"}, {Name: "p"}, {Space: space, Name: name}}
			for _, except := range []string{"", name, "p", "li", strings.ToUpper(name)} {
				if got, want := Implied(l, except), saidImplied(l, except); got != want {
					t.Fatalf("Implied(%v, %q): %d, not %d", l, except, got, want)
				}
				checkImplied(t, l, except)
			}
		}
	}
}

// P6.1: Find at the edges that the chapter names.
func TestFind(t *testing.T) {
	l := []api.Open{{Id: 0, Name: "html"}, {Id: 4, Name: "p"}, {Id: 7, Space: api.SpaceSvg, Name: "svg"}, {Id: 4, Space: api.SpaceMath, Name: "mi"}, {Id: math.MaxInt, Space: 9}}
	for _, x := range []struct{ id, want int }{
		{0, 0}, {4, 3}, {7, 2}, {math.MaxInt, 4}, {1, -1}, {2, -1}, {5, -1}, {8, -1}, {-1, -1}, {-4, -1}, {math.MinInt, -1}, {math.MaxInt32, -1},
	} {
		if got := Find(l, x.id); got != x.want {
			t.Errorf("Find(%d): %d, not %d", x.id, got, x.want)
		}
	}
	// An Id below 0 is a number as another, if one has it.
	below := []api.Open{{Id: -1}, {Id: math.MinInt}, {Id: -1}, {Id: 1}}
	if Find(below, -1) != 2 || Find(below, math.MinInt) != 1 || Find(below, -2) != -1 || Find(below, 0) != -1 {
		t.Error("Find of Ids below 0")
	}
}

// P6.1: of an empty list nothing is told, nil or not; no names are none.
func TestEmpty(t *testing.T) {
	for _, l := range [][]api.Open{nil, {}, list("html p")[:0]} {
		for _, names := range [][]string{nil, {}, {""}, {"html", "p"}} {
			for _, scope := range scopes {
				if Has(l, names, scope) {
					t.Errorf("Has(%q, %d) of nothing", names, scope)
				}
			}
			if Cut(l, names) != -1 {
				t.Errorf("Cut(%q) of nothing", names)
			}
		}
		if Implied(l, "") != 0 || Implied(l, "p") != 0 || Find(l, 0) != -1 || Find(l, -1) != -1 {
			t.Error("Implied, Find of nothing")
		}
	}
	for _, names := range [][]string{nil, {}, strings.Fields("p")[:0]} {
		if Has(list("html p"), names, api.ScopeAll) || Cut(list("html p"), names) != -1 {
			t.Error("no names are found")
		}
	}
	if o := (api.Open{}); Point(o) || Special(o) || Ends(o, api.ScopeAll) || Ends(o, api.ScopeTable) {
		t.Error("a zero one")
	}
}

// R4: what is handed in, and what lies behind its end, stays as it is, and is not read behind the end.
func TestNothingChanged(t *testing.T) {
	room, words := list("html table td p li table p"), strings.Fields("table td p b")
	roomAhead, wordsAhead := slices.Clone(room), slices.Clone(words)
	l, names := room[:5], words[:1]
	if Cut(l, names) != 1 || Implied(l, "") != 3 || Find(l, 6) != -1 || !Has(l, names, api.ScopeTable) || Has(l, names, api.ScopeAll) {
		t.Error("what lies behind the end is read")
	}
	if !slices.Equal(room, roomAhead) || !slices.Equal(words, wordsAhead) {
		t.Error("what is handed in is changed")
	}
}

// R1: long lists and names.
func TestLong(t *testing.T) {
	l := make([]api.Open, 1<<17)
	for i := range l {
		l[i] = api.Open{Id: i, Name: "p"}
	}
	names := []string{strings.Repeat("p", 1<<16), "b"}
	if Implied(l, "") != 0 || Implied(l, "p") != len(l) || Find(l, 0) != 0 || Cut(l, names) != -1 || Has(l, names, api.ScopeAll) {
		t.Error("a long list")
	}
	l[0].Name = "b"
	if Implied(l, "") != 1 || Cut(l, names) != 0 || !Has(l, names, api.ScopeList) {
		t.Error("a long list with another one first")
	}
}
