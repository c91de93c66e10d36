package kind

import (
	"math"
	"strings"
	"testing"

	"marginalia/api"
)

// The chapter's table, line by line.
const (
	voidNames    = "area base br col embed hr img input link meta param source track wbr"
	rawNames     = "iframe noembed noframes script style xmp"
	rcdataNames  = "textarea title"
	formatNames  = "a b big code em font i nobr s small strike strong tt u"
	headingNames = "h1 h2 h3 h4 h5 h6"
	blockNames   = "address article aside blockquote center details dialog dir div dl fieldset figcaption figure footer header hgroup main menu nav ol p search section summary ul"
	impliedNames = "dd dt li optgroup option p rb rp rt rtc"
	tableNames   = "caption col colgroup tbody td tfoot th thead tr"
	markerNames  = "applet marquee object"
	skipNames    = "body frame frameset head html " + tableNames
	breakNames   = "b big blockquote body br center code dd div dl dt em embed h1 h2 h3 h4 h5 h6 head hr i img li listing menu meta nobr ol p pre ruby s small span strike strong sub sup table tt u ul var"
	specialNames = voidNames + " " + rawNames + " " + rcdataNames + " " + headingNames + " " + blockNames + " " + tableNames + " " + markerNames +
		" basefont bgsound body button dd dt form frame frameset head html keygen li listing noscript plaintext pre select table template"
)

var table = map[api.Set]string{
	api.SetVoid:    voidNames,
	api.SetRaw:     rawNames,
	api.SetRcdata:  rcdataNames,
	api.SetFormat:  formatNames,
	api.SetHeading: headingNames,
	api.SetBlock:   blockNames,
	api.SetImplied: impliedNames,
	api.SetTable:   tableNames,
	api.SetMarker:  markerNames,
	api.SetSkip:    skipNames,
	api.SetBreak:   breakNames,
	api.SetSpecial: specialNames,
}

// inTable: what the chapter's table says.
func inTable(k api.Set, name string) bool {
	for _, n := range strings.Fields(table[k]) {
		if n == name {
			return true
		}
	}
	return false
}

// allNames: those of all sets, and some that are in none.
func allNames() []string {
	names := strings.Fields("abbr audio cite kbd label q svg math video canvas mark time del ins foreignobject image isindex x")
	for k := api.SetVoid; k <= api.SetSkip; k++ {
		names = append(names, strings.Fields(table[k])...)
	}
	return names
}

// near: what is not quite the name: a byte more, fewer or another.
func near(name string) []string {
	out := []string{"", " " + name, name + " ", name + "\x00", "\x00" + name, name + name, strings.ToUpper(name)}
	for _, c := range "ahrs16-_\u00C4\u017F\u212A" {
		out = append(out, name+string(c), string(c)+name)
	}
	for i := range len(name) {
		out = append(out, name[:i]+name[i+1:], name[:i], name[i:])
		for _, c := range []byte{name[i] ^ 32, name[i] + 1, name[i] - 1, name[i] | 128, 0, 255} {
			out = append(out, name[:i]+string([]byte{c})+name[i+1:])
		}
	}
	return out
}

// P2.1: every byte.
func TestEachByte(t *testing.T) {
	const letters = "ABCDEFGHIJKLMNOPQRSTUVWXYZabcdefghijklmnopqrstuvwxyz"
	for i := range 256 {
		c := byte(i)
		if got, want := Space(c), strings.IndexByte("\t\n\f\r ", c) >= 0; got != want {
			t.Errorf("Space(%d): %v", c, got)
		}
		if got, want := Letter(c), strings.IndexByte(letters, c) >= 0; got != want {
			t.Errorf("Letter(%d): %v", c, got)
		}
		if got, want := Figure(c), strings.IndexByte("0123456789", c) >= 0; got != want {
			t.Errorf("Figure(%d): %v", c, got)
		}
	}
}

// P2.1: White, of none, of each byte alone, ahead of, between and behind spaces.
func TestWhite(t *testing.T) {
	if !White("") || !White("\t\n\f\r ") || !White(strings.Repeat(" ", 1000)) {
		t.Error("spaces are not white")
	}
	for i := range 256 {
		c := string([]byte{byte(i)})
		want := strings.Contains("\t\n\f\r ", c)
		for _, s := range []string{c, c + " ", " " + c, "\n" + c + "\n", c + c} {
			if White(s) != want {
				t.Errorf("White(%q): %v", s, !want)
			}
		}
	}
	for _, s := range []string{"\u00A0", "\u2003", "\u0085", " \u3000", "\uFEFF"} {
		if White(s) {
			t.Errorf("White(%q): true", s)
		}
	}
}

// P2.1, P2.3: Lower of each byte, alone and beside others; twice is once.
func TestLower(t *testing.T) {
	const great, small = "ABCDEFGHIJKLMNOPQRSTUVWXYZ", "abcdefghijklmnopqrstuvwxyz"
	all, lowered := "", ""
	for i := range 256 {
		c := string([]byte{byte(i)})
		want := c
		if at := strings.Index(great, c); at >= 0 {
			want = small[at : at+1]
		}
		if got := Lower(c); got != want {
			t.Errorf("Lower(%q): %q", c, got)
		}
		all, lowered = all+c, lowered+want
	}
	for _, x := range [][2]string{{"", ""}, {all, lowered}, {all + all, lowered + lowered}, {"aB\u00C4", "ab\u00C4"}, {"\u0130\u212A\u017F\u03A3K", "\u0130\u212A\u017F\u03A3k"}, {"\xFFA\xC3", "\xFFa\xC3"}, {"BR", "br"}} {
		got := Lower(x[0])
		if got != x[1] {
			t.Errorf("Lower(%q): %q", x[0], got)
		}
		if Lower(got) != got {
			t.Errorf("Lower of Lower(%q): %q", x[0], Lower(got))
		}
	}
}

// P2.1: every name in every set, and all that is nearly one.
func TestSets(t *testing.T) {
	for _, name := range allNames() {
		for _, n := range append(near(name), name) {
			for k := range table {
				if Is(k, n) != inTable(k, n) {
					t.Errorf("Is(%d, %q): %v", k, n, !inTable(k, n))
				}
			}
		}
	}
}

// P2.1: a set that is none of these has no name.
func TestNoSet(t *testing.T) {
	for _, k := range []api.Set{0, -1, 13, 14, 100, math.MaxInt, math.MinInt} {
		for _, name := range append(allNames(), "") {
			if Is(k, name) {
				t.Errorf("Is(%d, %q): true", k, name)
			}
		}
	}
}

// P2.2: what is void, raw, a heading, a block, of a table or a marker is special.
func TestWithin(t *testing.T) {
	for _, name := range allNames() {
		for _, k := range []api.Set{api.SetVoid, api.SetRaw, api.SetHeading, api.SetBlock, api.SetTable, api.SetMarker} {
			if Is(k, name) && !Is(api.SetSpecial, name) {
				t.Errorf("%q is in %d and not special", name, k)
			}
		}
		if Is(api.SetBlock, name) && Is(api.SetFormat, name) {
			t.Errorf("%q is a block and formatting", name)
		}
	}
	if !Is(api.SetSpecial, "script") || !Is(api.SetSpecial, "h6") || Is(api.SetSpecial, "b") {
		t.Error("special")
	}
}

// P2.3: a name with a great letter is in no set, though its small one is.
func TestGreatLetters(t *testing.T) {
	for k, names := range table {
		for _, name := range strings.Fields(names) {
			for i := range len(name) {
				n := name[:i] + strings.ToUpper(name[i:i+1]) + name[i+1:]
				if n != name && Is(k, n) {
					t.Errorf("Is(%d, %q): true", k, n)
				}
				if !Is(k, Lower(n)) {
					t.Errorf("Is(%d, Lower(%q)): false", k, n)
				}
			}
		}
	}
	if Is(api.SetVoid, "BR") || !Is(api.SetVoid, "br") {
		t.Error("the chapter's example")
	}
}
