package build

import (
	"math/rand/v2"
	"strconv"
	"strings"
	"testing"

	"marginalia/api"
	"marginalia/kind"
)

// alphabets: the pieces of which texts are made, those together that have to do with each other.
func alphabets() [][]string {
	var out [][]string
	for _, words := range []string{
		// Formatting that crosses blocks.
		"<b> </b> <i> <a> </a> <p> </p> <div> <nobr> x <object> </object>",
		"<a> <b> <b> </b> </i> <i> <u> <em> <span> <div> </a> x",
		"<nobr> </nobr> <table> </table> <td> <a> </a> <p> <button> y",
		"<b> <b> <b> <b> </b> <b¬k=1> <b¬k=2> <p> <applet> </applet> x <p>",
		"<b¬k=1> <i> <a> </b> </a> <u> DIVS </div> <section> </section> x",
		// Tables.
		"<table> </table> <tr> </tr> <td> </td> <caption> </caption> <b> </b> x ¬",
		"<table> <tbody> </tbody> <thead> </tfoot> <col> <colgroup> </colgroup> <td> ¬ ¬x <!--c-->",
		"<table> <tr> <th> </th> </tr> </table> <p> </p> <input¬type=HIDDEN> <input> <form> <a>",
		"<table> <caption> <td> <script> </script> <style> </style> </body> <svg> <b> x <!--c-->",
		"<table> <td> <table> </table> </tbody> </tr> </td> <col> </col> <li> <b> x ¬",
		// SVG and MathML.
		"<svg> <svg/> </svg> <desc> </desc> <p> </p> <a> <font> <font¬size=1> x </br>",
		"<math> <mi> </mi> <mi/> <b> </b> <title> </title> <svg> <td> <table> </math> x",
		"<svg> <table> </table> <tr> <td> </tr> <desc> <tbody> <caption> x <g> </b>",
		"<svg> <foreignobject> <![CDATA[y]]> <!--c--> <div> </div> <button> </button> </foreignobject> <li> x <b>",
		// Items, blocks, and what is within itself.
		"<li> </li> <ul> </ul> <p> <div> <address> <dd> <dt> </dd> x <section>",
		"<h1> </h1> <h2> </h6> <p> <div> </div> <button> </button> <form> </form> x",
		"<ruby> </ruby> <rb> <rtc> <rt> <rp> </rtc> <p> <option> <optgroup> </option> x",
		"<pre> <listing> </pre> \n \n\n x\n <textarea> </textarea> <!--c--> <!doctype> <b> </>",
		"<title> </title> <style> </style> <xmp> </xmp> <plaintext> <p> <b> &lt; </p> x",
		"<br> </br> <hr> <img> <image> <meta> <p> <b> </p> <body> </html> x",
	} {
		var pieces []string
		for _, w := range strings.Split(words, " ") {
			w = strings.ReplaceAll(w, "DIVS", strings.Repeat("<div>", 8))
			pieces = append(pieces, strings.ReplaceAll(w, "¬", " "))
		}
		out = append(out, pieces)
	}
	return out
}

// great: the pieces with their tags in great letters; false, if one is a tag behind which others are none.
func great(pieces []string) ([]string, bool) {
	var out []string
	for _, p := range pieces {
		tag, value, valued := strings.Cut(p, "=")
		name := strings.Trim(tag, "</>")
		switch {
		case kind.Is(api.SetRaw, name), kind.Is(api.SetRcdata, name), name == "plaintext":
			return nil, false
		case p[0] != '<' || p[1] == '!':
			out = append(out, p)
		case valued:
			out = append(out, strings.ToUpper(tag)+"="+value)
		default:
			out = append(out, strings.ToUpper(p))
		}
	}
	return out, true
}

// check: what Fragment answers of these pieces is what the second reading has, and what the promises say.
func check(t *testing.T, pieces []string) {
	t.Helper()
	s := strings.Join(pieces, "")
	got, e := Fragment(s)
	want, f := saidFragment(s)
	if e != f || !Same(got, want) {
		t.Errorf("Fragment(%q): %s (%d), not %s (%d)", s, short(got), e, short(want), f)
	}
	checkWhole(t, s, got)
	letters, ok := great(pieces)
	s = strings.Join(letters, "")
	if again, f := Fragment(s); ok && (e != f || !Same(got, again)) {
		t.Errorf("Fragment(%q): %s (%d), in small letters %s (%d)", s, short(again), f, short(got), e)
	}
}

// checkWhole: P8.3 and P8.4 of a whole tree.
func checkWhole(t *testing.T, s string, l []api.Node) {
	t.Helper()
	if Many(l) >= api.MaxNodes {
		t.Errorf("Fragment(%q): %d nodes", s, Many(l))
	}
	checkKids(t, s, api.Node{}, l)
}

func checkKids(t *testing.T, s string, parent api.Node, l []api.Node) {
	t.Helper()
	for _, n := range l {
		html := n.Kind == api.NodeElement && n.Space == api.SpaceHtml
		switch {
		case n.Kind == api.NodeText && n.Text == "":
			t.Errorf("Fragment(%q): an empty text", s)
		case n.Kind != api.NodeElement && len(n.Kids) > 0:
			t.Errorf("Fragment(%q): no element, and holds others", s)
		case html && kind.Is(api.SetVoid, n.Name) && len(n.Kids) > 0:
			t.Errorf("Fragment(%q): %s holds others", s, n.Name)
		case html && !standsWithin(n.Name, parent):
			t.Errorf("Fragment(%q): %s within %q", s, n.Name, parent.Name)
		}
		checkKids(t, s, n, n.Kids)
	}
}

// standsWithin: may an element of that name stand right within the parent? (P8.4)
func standsWithin(name string, parent api.Node) bool {
	within := ""
	switch name {
	case "td", "th":
		within = "tr"
	case "tr":
		within = "tbody tfoot thead"
	case "tbody", "tfoot", "thead", "caption", "colgroup":
		within = "table"
	case "col":
		within = "colgroup"
	default:
		return true
	}
	return parent.Kind == api.NodeElement && parent.Space == api.SpaceHtml && among(within, parent.Name)
}

// P8.1, P8.3, P8.4, P8.5: all texts of up to four pieces of each alphabet.
func TestAllShortTexts(t *testing.T) {
	for i, pieces := range alphabets() {
		t.Run(strconv.Itoa(i), func(t *testing.T) {
			t.Parallel()
			var grow func(l []string)
			grow = func(l []string) {
				check(t, append(l[:len(l):len(l)], "x", "<i>", "y"))
				if len(l) == 4 || t.Failed() {
					return
				}
				for _, p := range pieces {
					grow(append(l[:len(l):len(l)], p))
				}
			}
			grow(nil)
		})
	}
}

// P8.1, P8.3, P8.4, P8.5: long texts of one alphabet, of two, and of all.
func TestLongTexts(t *testing.T) {
	t.Parallel()
	all := alphabets()
	var whole []string
	for _, pieces := range all {
		whole = append(whole, pieces...)
	}
	r := rand.New(rand.NewPCG(8, 1))
	for i := range 30000 {
		pieces := whole
		if i%4 > 0 {
			pieces = all[r.IntN(len(all))]
		}
		if i%4 > 2 {
			pieces = append(pieces[:len(pieces):len(pieces)], all[r.IntN(len(all))]...)
		}
		var l []string
		for range 5 + r.IntN(40) {
			l = append(l, pieces[r.IntN(len(pieces))])
		}
		check(t, l)
		if t.Failed() {
			return
		}
	}
}

// P8.1, P8.3, P8.4: texts that say one thing many times, so that the limits are reached in many ways.
func TestManyTimes(t *testing.T) {
	t.Parallel()
	all := alphabets()
	r := rand.New(rand.NewPCG(8, 2))
	seen := map[api.Errno]int{}
	for range 3000 {
		pieces := all[r.IntN(len(all))]
		var l []string
		for size := 0; size < 200; {
			phrase := ""
			for range 1 + r.IntN(6) {
				phrase += pieces[r.IntN(len(pieces))]
			}
			for range 1 + r.IntN(60) {
				l = append(l, phrase)
				size++
			}
		}
		s := strings.Join(l, "")
		got, e := Fragment(s)
		want, f := saidFragment(s)
		if e != f || !Same(got, want) {
			t.Fatalf("Fragment(%q): %d, not %d", brief(s), e, f)
		}
		checkWhole(t, s, got)
		seen[e]++
	}
	if seen[api.OK] < 100 || seen[api.ErrDeep] < 100 || seen[api.ErrLarge] < 100 {
		t.Errorf("too few of a sort are tried: %v", seen)
	}
}
