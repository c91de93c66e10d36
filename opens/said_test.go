package opens

import (
	"strings"
	"testing"

	"marginalia/api"
)

// The names that the chapters list, line by line.
const (
	svgPoints  = "foreignobject desc title"
	mathPoints = "mi mo mn ms mtext"

	allEnds    = "applet caption html marquee object table td template th"
	listEnds   = allEnds + " ol ul"
	buttonEnds = allEnds + " button"
	tableEnds  = "html table template"

	impliedNames = "dd dt li optgroup option p rb rp rt rtc"
	specialNames = "area base br col embed hr img input link meta param source track wbr" +
		" iframe noembed noframes script style xmp" +
		" textarea title" +
		" h1 h2 h3 h4 h5 h6" +
		" address article aside blockquote center details dialog dir div dl fieldset figcaption figure footer header hgroup main menu nav ol p search section summary ul" +
		" caption col colgroup tbody td tfoot th thead tr" +
		" applet marquee object" +
		" basefont bgsound body button dd dt form frame frameset head html keygen li listing noscript plaintext pre select table template"

	otherNames = "a b i span abbr font svg math ruby image annotation-xml foreign mtable option optgroup x"
)

// A second reading of the chapter: by lists of words, and of an element and what stands ahead of it.

func listed(words, name string) bool {
	for _, w := range strings.Fields(words) {
		if w == name {
			return true
		}
	}
	return false
}

func saidPoint(o api.Open) bool {
	return o.Space == 1 && listed(svgPoints, o.Name) || o.Space == 2 && listed(mathPoints, o.Name)
}

func saidSpecial(o api.Open) bool {
	return o.Space == 0 && listed(specialNames, o.Name) || saidPoint(o)
}

func saidEnds(o api.Open, scope api.Scope) bool {
	words := allEnds
	switch scope {
	case 2:
		words = listEnds
	case 3:
		words = buttonEnds
	case 4:
		words = tableEnds
	}
	if o.Space == 0 && listed(words, o.Name) {
		return true
	}
	return scope != 4 && saidPoint(o)
}

// saidOf: is it of SpaceHtml and of one of the names?
func saidOf(o api.Open, names []string) bool {
	for _, n := range names {
		if o == (api.Open{Id: o.Id, Space: 0, Name: n}) {
			return true
		}
	}
	return false
}

func saidHas(l []api.Open, names []string, scope api.Scope) bool {
	if len(l) == 0 {
		return false
	}
	o, ahead := l[len(l)-1], l[:len(l)-1]
	return saidOf(o, names) || !saidEnds(o, scope) && saidHas(ahead, names, scope)
}

func saidCut(l []api.Open, names []string) int {
	left := -1
	for i, o := range l {
		if saidOf(o, names) {
			left = i
		}
	}
	return left
}

func saidGoes(o api.Open, except string) bool {
	return o.Space == 0 && listed(impliedNames, o.Name) && o.Name != except
}

func saidImplied(l []api.Open, except string) int {
	if len(l) == 0 || !saidGoes(l[len(l)-1], except) {
		return len(l)
	}
	return saidImplied(l[:len(l)-1], except)
}

func saidFind(l []api.Open, id int) int {
	place := -1
	for i, o := range l {
		if o.Id == id {
			place = i
		}
	}
	return place
}

// eachList: all lists of at most that many of these, their Ids by their places, some of them alike. It ends at the first fault, for one fault shows at thousands of them.
func eachList(t *testing.T, of []api.Open, most int, f func(l []api.Open)) {
	var grow func(l []api.Open)
	grow = func(l []api.Open) {
		f(l)
		if len(l) == most || t.Failed() {
			return
		}
		for _, o := range of {
			o.Id = len(l) / 2
			grow(append(l[:len(l):len(l)], o))
		}
	}
	grow(nil)
}

// some: one of each sort that a search may meet.
func some() []api.Open {
	var out []api.Open
	for _, name := range strings.Fields("html table td ul button p li rtc title mi b P") {
		out = append(out, ofHtml(name))
	}
	return append(out, ofSvg("title"), ofSvg("p"), ofSvg("table"), ofMath("mi"), ofMath("title"), api.Open{Space: 3, Name: "td"})
}

// P6.1, P6.2, P6.3: every call at all lists of up to three, against the second reading.
func TestAllShortLists(t *testing.T) {
	names := [][]string{nil, {"p"}, {"table"}, {"td", "th"}, {"li", "ul"}, {"title", "mi"}, {"button", "p", "html"}, {"P", ""}}
	eachList(t, some(), 3, func(l []api.Open) {
		for _, n := range names {
			checkNames(t, l, n)
		}
		for _, except := range []string{"", "p", "li", "rtc", "b", "P"} {
			if got, want := Implied(l, except), saidImplied(l, except); got != want {
				t.Errorf("Implied(%v, %q): %d, not %d", l, except, got, want)
			}
			checkImplied(t, l, except)
		}
		for id := -2; id <= 3; id++ {
			if got, want := Find(l, id), saidFind(l, id); got != want {
				t.Errorf("Find(%v, %d): %d, not %d", l, id, got, want)
			}
		}
	})
}

// checkNames: Has in each scope and Cut, of these names.
func checkNames(t *testing.T, l []api.Open, names []string) {
	t.Helper()
	for _, scope := range scopes {
		if got, want := Has(l, names, scope), saidHas(l, names, scope); got != want {
			t.Errorf("Has(%v, %q, %d): %v", l, names, scope, got)
		}
	}
	checkWider(t, l, names)
	if got, want := Cut(l, names), saidCut(l, names); got != want {
		t.Errorf("Cut(%v, %q): %d, not %d", l, names, got, want)
	}
	checkCut(t, l, names)
}

// checkWider: what P6.2 says.
func checkWider(t *testing.T, l []api.Open, names []string) {
	t.Helper()
	for _, scope := range []api.Scope{api.ScopeList, api.ScopeButton} {
		if Has(l, names, scope) && !Has(l, names, api.ScopeAll) {
			t.Errorf("%v has %q in %d and not in ScopeAll", l, names, scope)
		}
	}
}

// checkCut: what P6.3 says of Cut: a beginning is left, and what goes begins with one of the names and has no other.
func checkCut(t *testing.T, l []api.Open, names []string) {
	t.Helper()
	n := Cut(l, names)
	if n < -1 || n >= len(l) {
		t.Errorf("Cut(%v, %q): %d is left", l, names, n)
		return
	}
	for i := n; i < len(l); i++ {
		if i >= 0 && saidOf(l[i], names) != (i == n) {
			t.Errorf("Cut(%v, %q): %d", l, names, n)
		}
	}
}

// checkImplied: what P6.3 says of Implied: a beginning is left, it does not end with what goes, and all behind it goes.
func checkImplied(t *testing.T, l []api.Open, except string) {
	t.Helper()
	n := Implied(l, except)
	if n < 0 || n > len(l) {
		t.Errorf("Implied(%v, %q): %d are left", l, except, n)
		return
	}
	if n > 0 && saidGoes(l[n-1], except) {
		t.Errorf("Implied(%v, %q): %d, which end with what goes", l, except, n)
	}
	for _, o := range l[n:] {
		if !saidGoes(o, except) {
			t.Errorf("Implied(%v, %q): %v went", l, except, o)
		}
	}
}
