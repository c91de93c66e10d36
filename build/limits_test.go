package build

import (
	"strings"
	"testing"

	"marginalia/api"
)

// tells: each text is answered by that error, and by nothing beside it.
func tells(t *testing.T, e api.Errno, texts ...string) {
	t.Helper()
	for _, s := range texts {
		l, got := Fragment(s)
		if got != e || got != api.OK && len(l) > 0 {
			t.Errorf("Fragment(%q): %d with %d nodes, not %d", brief(s), got, len(l), e)
		}
		if _, said := saidFragment(s); said != e {
			t.Errorf("the second reading has %q as %d, not %d", brief(s), said, e)
		}
	}
}

// P8.1: MaxInput bytes, and one more.
func TestMaxInput(t *testing.T) {
	tells(t, api.OK, strings.Repeat("x", 4095), strings.Repeat("x", 4096), strings.Repeat("</>", 1365)+"x", strings.Repeat("\n", 4096))
	tells(t, api.ErrLarge, strings.Repeat("x", 4097), strings.Repeat("x", 1<<20), strings.Repeat("</>", 1366), strings.Repeat("<div>", 820))
	if l, _ := Fragment(strings.Repeat("&", 4096)); len(l) != 1 || l[0].Text != strings.Repeat("&", 4096) {
		t.Error("a text of MaxInput bytes is not read whole")
	}
	// Bytes count, not letters.
	tells(t, api.OK, strings.Repeat("\u00e4", 2048))
	tells(t, api.ErrLarge, strings.Repeat("\u00e4", 2049))
}

// deep: so many elements, one in the other.
func deep(n int) string { return strings.Repeat("<div>", n) }

// P8.1: MaxDeep elements are open, and one more is to be, of each sort.
func TestMaxDeep(t *testing.T) {
	l, e := Fragment(deep(60))
	if e != api.OK || Deep(l) != 60 || Many(l) != 60 {
		t.Errorf("60 deep: %d, %d, %d", e, Deep(l), Many(l))
	}
	for _, more := range []string{"x", "<!--c-->", "</p", "<tr>", "</div><b>x", "</div></div><b><i>x", "<body>", "</b></x></td>", "<!doctype>", "</div><br>"} {
		tells(t, api.OK, deep(60)+more)
	}
	for _, more := range []string{"<b>", "<div>", "<br>", "<meta>", "<svg>", "<svg/>", "<math>", "<x>", "</p>", "</br>", "<table>", "<hr>", "<image>", "<title>", "<style>", "<xmp>", "<plaintext>", "<h1>", "<pre>", "<li>", "<dd>", "<form>", "<button>", "<a>", "<nobr>", "<object>", "<option>", "<rt>"} {
		tells(t, api.ErrDeep, deep(60)+more)
		tells(t, api.OK, deep(59)+more)
	}
	// What no tag was written for: tbody, tr, colgroup, what is made anew.
	tells(t, api.OK, deep(58)+"<table><tbody>", deep(57)+"<table><tr>", deep(56)+"<table><td>", deep(57)+"<table><col>")
	tells(t, api.ErrDeep, deep(59)+"<table><tbody>", deep(58)+"<table><tr>", deep(57)+"<table><td>", deep(58)+"<table><col>", deep(59)+"<table><caption>")
	tells(t, api.OK, deep(58)+"<p><b></p>x", deep(57)+"<p><b><i></p>x", deep(58)+"<p><b></p>", deep(58)+"<p><b></p><div>x", deep(58)+"<p><b></p><x>")
	tells(t, api.ErrDeep, deep(58)+"<p><b></p><div><div>x", deep(58)+"<p><b></p><x><x>", deep(57)+"<p><b><i></p><div><br>")
	tells(t, api.OK, deep(59)+"<svg>x", deep(58)+"<svg><g>x", deep(58)+"<svg><g/>")
	tells(t, api.ErrDeep, deep(59)+"<svg><g>", deep(59)+"<svg><g/>", deep(59)+"<table>x<b>y", deep(59)+"<table><b>")
	tells(t, api.ErrDeep, strings.Repeat("<b>", 61), strings.Repeat("<svg>", 61), strings.Repeat("<table><td>", 16), strings.Repeat("<x/>", 61))
	tells(t, api.OK, strings.Repeat("<b>", 60), strings.Repeat("<svg>", 60), strings.Repeat("<table><td>", 15), strings.Repeat("<svg/>", 500), strings.Repeat("<br>", 500))
	// Copies are not inserted: where 60 are open they are made all the same.
	tells(t, api.OK, deep(57)+"<b><i><div></b>x", deep(58)+"<b><div></b>x", deep(54)+"<b><i><u><s><em><div></b>x")
	// The first error ends all.
	tells(t, api.ErrDeep, deep(61)+strings.Repeat("</div>", 61)+"x")
}

// filler: a text of which n nodes (14 at least) are made, beside the root, that leaves no formatting and nothing open.
func filler(n int) string {
	// In each p twelve elements are made anew for its text.
	first, each := "<object><p>"+strings.Repeat("<b><i><u><s>", 3), "<p>x"
	return first + strings.Repeat(each, n/14-1) + "</object>" + strings.Repeat("<hr>", n%14)
}

// P8.1, P8.3: MaxNodes nodes, the root counted, and one more, by each way in which nodes are made.
func TestMaxNodes(t *testing.T) {
	full := filler(1999)
	l, e := Fragment(full)
	if e != api.OK || Many(l) != 1999 {
		t.Fatalf("the root and 1999 nodes: %d, %d", e, Many(l))
	}
	tells(t, api.OK, full, full+"</b></div></x>", full+"<!doctype>", full+"<tr></>")
	tells(t, api.ErrLarge, full+"x", full+"<b>", full+"<br>", full+"<!--c-->", full+"</p>", full+"</br>", full+"<svg>", full+"<table>", full+"</?>")
	tells(t, api.ErrLarge, full+"<pre>\n", full+"<title>", full+"x<div></div></div>")
	for _, x := range []struct {
		text string
		made int
	}{
		{"x", 1}, {"x</>y</z>z", 1}, {"<b>", 1}, {"<!--c-->", 1}, {"<br>x", 2}, {"<pre>\nx", 2}, {"<pre>\n", 1},
		{"<svg><g>x<!--c--><desc>y", 6}, {"<title>x</title>", 2}, {"<plaintext>x", 2}, {"<table>x", 2}, {"x<table>y", 2}, {"<table> ", 2},
		{"<table><td>", 4}, {"<table><col> ", 4}, {"<table><caption>x<tr>", 5}, {"</p>", 1}, {"</br>", 1},
		// Made anew, with the text that asks for it.
		{"<p><b></p>x", 4}, {"<p><b><i></p>x", 6}, {"<p><b><i></p>", 3}, {"<p><b></p><br>", 4},
		// Copies: of what is adopted, and of what is between.
		{"<b><p></b>", 3}, {"<b><i><p></b>", 5}, {"<b><span><p></b>", 4}, {"<b><i><u><s><em><p></b>", 10}, {"<b><div><p></b>", 5}, {"<a><p><a>", 4},
	} {
		s := filler(1999-x.made) + x.text
		tells(t, api.OK, s)
		if l, _ := Fragment(s); Many(l) != 1999 || !Same(l[len(l)-1:], tail(t, x.text)) {
			t.Errorf("%q behind a filler: %d nodes, %s", x.text, Many(l), short(l[len(l)-1:]))
		}
		for less := range x.made {
			tells(t, api.ErrLarge, filler(1999-less)+x.text)
		}
	}
}

// tail: the last node of a text that is read alone.
func tail(t *testing.T, s string) []api.Node {
	t.Helper()
	l, e := Fragment(s)
	if e != api.OK || len(l) == 0 {
		t.Fatalf("Fragment(%q): %d", s, e)
	}
	return l[len(l)-1:]
}

// P8.1, R2: where both apply, ErrDeep, which is named first; the first error ends all.
func TestBothLimits(t *testing.T) {
	full := filler(1999-60) + deep(60)
	tells(t, api.OK, full)
	tells(t, api.ErrDeep, full+"<b>", full+"</p>", full+"<svg>x", full+"<br>x")
	tells(t, api.ErrLarge, full+"x", full+"x<b>", full+"<!--c--><b>", full+"</div><b><i>")
	tells(t, api.ErrLarge, strings.Repeat("<div>", 61)+strings.Repeat("x", 4096))
}
