package scheme

import (
	"math/rand/v2"
	"regexp"
	"strings"
	"testing"
)

// A second reading of the chapter: the whole link in two steps, and a pattern.

var begins = regexp.MustCompile(`^([A-Za-z][A-Za-z0-9+.\-]*):`)

func saidTidied(s string) string {
	for s != "" && s[0] <= 32 {
		s = s[1:]
	}
	for _, c := range []string{"\t", "\n", "\r"} {
		s = strings.ReplaceAll(s, c, "")
	}
	return s
}

func saidOf(s string) (string, bool) {
	m := begins.FindStringSubmatch(saidTidied(s))
	if m == nil {
		return "", false
	}
	return strings.ToLower(m[1]), true
}

func saidSafe(s string, schemes []string) bool {
	name, ok := saidOf(s)
	for _, x := range schemes {
		if x == name {
			return true
		}
	}
	return !ok
}

// held: the link, held against the second reading.
func held(t *testing.T, link string) {
	t.Helper()
	got, ok := Of(link)
	if want, wanted := saidOf(link); got != want || ok != wanted {
		t.Fatalf("Of(%q): %q, %v; want %q, %v", link, got, ok, want, wanted)
	}
	for _, l := range [][]string{nil, {""}, {"a"}, {"az", "A", "z"}, {"b", got}, {strings.ToUpper(got), got + ":"}} {
		if got, want := Safe(link, l), saidSafe(link, l); got != want {
			t.Fatalf("Safe(%q, %q): %v", link, l, got)
		}
	}
}

// longer: the link, and all that begin with it and have up to so many of the signs more.
func longer(t *testing.T, link, signs string, more int) {
	held(t, link)
	if more == 0 {
		return
	}
	for i := range len(signs) {
		longer(t, link+signs[i:i+1], signs, more-1)
	}
}

// P10.1: all short links of these bytes.
func TestAllShort(t *testing.T) {
	longer(t, "", "aZ1+:/\t\n \x00\xC3", 5)
	longer(t, "", "a:\r /", 7)
}

// anyLink: a link of pieces that a scheme is made of, or that break one.
func anyLink(r *rand.Rand) string {
	pieces := []string{"a", "b", "z", "A", "M", "Z", "java", "SCRIPT", "https", "0", "9", "+", "-", ".", "a", "Q", ":", ":", "\t", "\n", "\r", "\r\n", " ", "\x00", "\x1F", "\f", "/", "?", "#", "@", "_", "[", "`", "{", "\x7F", "\u00A0", "\u017F", "\u212A", "\xFF"}
	s := strings.Repeat(" ", r.IntN(2))
	for range r.IntN(9) {
		// Most of the time one of the first, which a scheme has, lest most links have none.
		n := len(pieces)
		if r.IntN(8) > 0 {
			n = 22
		}
		s += pieces[r.IntN(n)]
	}
	return s + []string{"", ":", ":x"}[r.IntN(3)]
}

// P10.1: many links.
func TestManyLinks(t *testing.T) {
	r := rand.New(rand.NewPCG(10, 1))
	for range 100000 {
		held(t, anyLink(r))
	}
	for range 100000 {
		link := make([]byte, r.IntN(8))
		for i := range link {
			link[i] = byte(r.IntN(256))
		}
		held(t, string(link)+"a:"[r.IntN(2):])
	}
}
