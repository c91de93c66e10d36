package scheme

import (
	"math/rand/v2"
	"strings"
	"testing"
)

// some: links with a scheme and without one, ordinary and not.
func some() []string {
	l := []string{"", "a", "a:", ":", "::", "https://x", "jAvaScript:x", "a+b-c.1:x", "1a:", "/a:b", "a b:", " a:", "a :", "\x00a:", "a\x00:", "a\tb:", "\t a:", " \t a:", "\u00E4:", "\xFF:a", "a\xFF:", "a/b:c", "mailto:a@b", "?:", "#:"}
	r := rand.New(rand.NewPCG(10, 2))
	for range 2000 {
		l = append(l, anyLink(r))
	}
	return l
}

// alike: both links have the one scheme, or none, and are safe with the same lists.
func alike(t *testing.T, link, changed string) {
	t.Helper()
	a, is := Of(link)
	b, still := Of(changed)
	if a != b || is != still {
		t.Fatalf("Of(%q): %q, %v; Of(%q): %q, %v", link, a, is, changed, b, still)
	}
	for _, l := range [][]string{nil, {"https", ""}, {a}} {
		if Safe(link, l) != Safe(changed, l) {
			t.Fatalf("Safe of %q and of %q with %q: %v and %v", link, changed, l, Safe(link, l), Safe(changed, l))
		}
	}
}

// P10.2: tabs, line feeds and carriage returns change nothing, at no place, nor do several in a row.
func TestHiddenAnywhere(t *testing.T) {
	for _, link := range some() {
		for at := range len(link) + 1 {
			for _, x := range []string{"\t", "\n", "\r", "\r\n", "\t\t", "\n\r\t\n"} {
				alike(t, link, link[:at]+x+link[at:])
			}
		}
		for _, x := range []string{"\t", "\n", "\r"} {
			alike(t, link, x+strings.Join(strings.Split(link, ""), x)+x)
			alike(t, link, strings.ReplaceAll(link, x, ""))
		}
	}
}

// P10.2: nor do blanks ahead, each byte up to 32 among them, nor all of them.
func TestBlanksAhead(t *testing.T) {
	all := ""
	for i := range 33 {
		all += string([]byte{byte(i)})
	}
	for _, link := range some() {
		for i := range 33 {
			alike(t, link, all[i:i+1]+link)
			alike(t, link, " "+all[i:i+1]+" "+link)
		}
		alike(t, link, all+link)
		alike(t, link, all+all+link)
	}
}

// turned: the link with those letters in the other kind whose bit is set, by their places.
func turned(link string, bits uint64) string {
	out := []byte(link)
	for i, c := range out {
		if c|32 >= 'a' && c|32 <= 'z' && bits>>(i%64)&1 == 1 {
			out[i] = c ^ 32
		}
	}
	return string(out)
}

// P10.2: nor do great letters, all of them, one alone or some.
func TestGreatLetters(t *testing.T) {
	r := rand.New(rand.NewPCG(10, 3))
	for _, link := range some() {
		alike(t, link, turned(link, 1<<64-1))
		alike(t, link, turned(link, r.Uint64()))
		for i := range min(len(link), 64) {
			alike(t, link, turned(link, 1<<i))
		}
	}
}

// P10.3: a scheme is told in small letters, figures, +, - and ., a letter first; told again, it is itself.
func TestLettersAlone(t *testing.T) {
	const first = "abcdefghijklmnopqrstuvwxyz"
	had := 0
	for _, link := range some() {
		name, ok := Of(link)
		if !ok {
			if name != "" {
				t.Errorf("Of(%q): false, and %q", link, name)
			}
			continue
		}
		had++
		if name == "" || !strings.Contains(first, name[:1]) || strings.Trim(name, first+"0123456789+-.") != "" {
			t.Errorf("Of(%q): %q", link, name)
		}
		if strings.ToLower(name) != name {
			t.Errorf("Of(%q): %q, with a great letter", link, name)
		}
		check(t, name+":", name)
		check(t, name, "")
	}
	if had < 200 {
		t.Errorf("only %d links had a scheme", had)
	}
}
