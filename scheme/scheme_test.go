package scheme

import (
	"slices"
	"strings"
	"testing"
)

// none is what no scheme is told as, in a table of texts.
const none = ""

// check: the link's scheme is that, or none.
func check(t *testing.T, link, want string) {
	t.Helper()
	if got, ok := Of(link); got != want || ok != (want != none) {
		t.Errorf("Of(%q): %q, %v; want %q", link, got, ok, want)
	}
}

// P10.1: the chapter's examples.
func TestExamples(t *testing.T) {
	check(t, " jAva\tscript:x", "javascript")
	check(t, "/a:b", none)
	check(t, "1a:", none)
}

// P10.1: ordinary links, and all the edges of the words that are no matter of a single byte.
func TestOf(t *testing.T) {
	for _, x := range [][2]string{
		{"https://example.org/a?b=c#d", "https"}, {"mailto:a@example.org", "mailto"}, {"data:text/html,x", "data"}, {"a:", "a"}, {"Z:", "z"},
		{"svn+ssh://x", "svn+ssh"}, {"a+b-c.1:", "a+b-c.1"}, {"a+:", "a+"}, {"a-:", "a-"}, {"a.:", "a."}, {"a1:", "a1"}, {"a0123456789:", "a0123456789"}, {"z+-.+-.9:x", "z+-.+-.9"},
		// No link at all, no colon, or nothing ahead of it.
		{"", none}, {"a", none}, {"https", none}, {"//example.org", none}, {"a/b", none}, {":", none}, {":a", none}, {"::", none}, {":a:", none}, {" :a:", none}, {"\t:", none},
		// The first colon ends it.
		{"a::", "a"}, {"a:b:", "a"}, {"a:b:c", "a"}, {"a:/b:", "a"},
		// What a link without a scheme may begin with.
		{"/a:b", none}, {"a/b:c", none}, {"?a:b", none}, {"a?b:c", none}, {"#a:b", none}, {"a#b:c", none}, {"./a:b", none}, {"a/:", none}, {"a?:", none}, {"a#:", none}, {"a:/", "a"}, {"a:?", "a"}, {"a:#", "a"},
		// A letter stands first.
		{"1a:", none}, {"+a:", none}, {"-a:", none}, {".a:", none}, {"1:", none}, {"+:", none}, {"-:", none}, {".:", none}, {" 1a:", none}, {"\n+a:", none},
		// Great letters.
		{"HTTPS:X", "https"}, {"jAvAsCrIpT:x", "javascript"}, {"ABCDEFGHIJKLMNOPQRSTUVWXYZ:", "abcdefghijklmnopqrstuvwxyz"}, {"A+B-C.1:", "a+b-c.1"},
		// What is nearly a letter, a colon or a blank.
		{"\u00E4:", none}, {"a\u00E4:", none}, {"\u212A:", none}, {"java\u017Fcript:", none}, {"\u0130:", none}, {"\uFF41:", none}, {"a\uFF1A", none}, {"\u00A0a:", none}, {"\u2003a:", none}, {"\uFEFFa:", none}, {"\xFFa:", none}, {"a\xFF:", none}, {"a\xC3", none}, {"a:\xFF", "a"}, {"a_b:", none}, {"a%3A", none}, {"a%62:", none}, {"java&#9;script:", none}, {"javascript&colon;", none},
	} {
		check(t, x[0], x[1])
	}
}

// P10.1, P10.2: what goes first are the bytes up to 32 at the beginning, then 9, 10 and 13 wherever they stand.
func TestTidied(t *testing.T) {
	for _, x := range [][2]string{
		{" jAva\tscr\nipt:x", "javascript"}, {"\x00\x1F https://x", "https"}, {"a\r:b", "a"}, {"a\t\n\r:", "a"}, {"a\r\n\r\nb:", "ab"}, {"\t\t\ta:", "a"}, {"\t\n\ra\t\n\rb\t\n\r:\t\n\r", "ab"},
		// Between two blanks ahead.
		{" \t a:", "a"}, {" \n a:", "a"}, {" \r a:", "a"}, {"\t \t a:", "a"}, {"\x00\t\x00a:", "a"}, {" \t\n\r \x0B\f a\tb:", "ab"},
		// A blank behind a letter stays, whatever stands beside it.
		{"a b:", none}, {"a :", none}, {" a :", none}, {"a\t b:", none}, {"a \tb:", none}, {"a\n \rb:", none}, {"\ta\t :", none}, {"a\x00b:", none}, {"a\fb:", none}, {"a\x0B:", none}, {"a\x1F:", none}, {"a: ", "a"}, {"a:\t", "a"},
		// What goes does not stand ahead of anything that may not be first.
		{"\t1a:", none}, {" /a:", none}, {"1\ta:", none}, {"\t\n\r:", none},
		// Such bytes alone.
		{"\t", none}, {"\n", none}, {"\r", none}, {" ", none}, {"\x00", none}, {"\t\n\r", none}, {" \t \n \r ", none}, {"\x00\x01\x1F \t", none},
	} {
		check(t, x[0], x[1])
	}
}

// with: what a byte makes of a scheme, when it stands behind the one part and ahead of the other; ahead "" is the scheme's beginning.
func with(c byte, ahead, behind string) string {
	const small, great = "abcdefghijklmnopqrstuvwxyz", "ABCDEFGHIJKLMNOPQRSTUVWXYZ"
	s := string([]byte{c})
	if at := strings.Index(great, s); at >= 0 {
		s = small[at : at+1]
	}
	switch {
	case c == 9 || c == 10 || c == 13 || ahead == "" && c <= 32:
		return ahead + behind
	case strings.Contains(small, s) || ahead != "" && strings.Contains("0123456789+-.", s):
		return ahead + s + behind
	case c == ':':
		return ahead
	}
	return none
}

// P10.1, P10.3: each byte ahead of a scheme, at each place within it (beside what stands there, or instead of it), right ahead of the colon and right behind it.
func TestEachByte(t *testing.T) {
	for i := range 256 {
		c := byte(i)
		s := string([]byte{c})
		for _, name := range []string{"a", "ht", "a+b-c.1", "javascript"} {
			for at := range len(name) + 1 {
				check(t, name[:at]+s+name[at:]+":x", with(c, name[:at], name[at:]))
				check(t, " \t"+name[:at]+s+name[at:]+":", with(c, name[:at], name[at:]))
			}
			for at := 1; at < len(name); at++ {
				check(t, name[:at]+s+name[at+1:]+":", with(c, name[:at], name[at+1:]))
			}
			check(t, name+":"+s, name)
			check(t, name+":"+s+":", name)
			check(t, name+":"+s+name+":", name)
			check(t, s+s+name+":", with(c, "", with(c, "", name)))
		}
		check(t, s, none)
		check(t, s+s, none)
		check(t, s+":", with(c, "", ""))
	}
}

// P10.1: a scheme that is in the list, at each place of it, is safe; no other one is.
func TestSafe(t *testing.T) {
	for _, x := range []struct {
		link    string
		schemes []string
		want    bool
	}{
		{"https:x", []string{"https"}, true}, {"https:x", []string{"https", "http", "mailto"}, true}, {"https:x", []string{"http", "https", "mailto"}, true}, {"https:x", []string{"http", "mailto", "https"}, true}, {"https:x", []string{"https", "https"}, true}, {"https:x", []string{"a", "https", "b", "https"}, true},
		{"https:x", nil, false}, {"https:x", []string{}, false}, {"https:x", []string{"http", "mailto"}, false}, {"javascript:x", []string{"http", "https", "mailto"}, false},
		// Just it: no beginning, no end, nothing around, nothing in between.
		{"https:x", []string{"http", "httpss", "ttps", " https", "https ", "https:", "ht\ttps", "h", "https:x", "*", "."}, false}, {"a.b:", []string{"axb", "a"}, false}, {"a+b:", []string{"a", "b", "aab"}, false},
		// A scheme is told in small letters, so that great ones in the list are never met.
		{"https:x", []string{"HTTPS", "Https", "httpS"}, false}, {"HTTPS:x", []string{"HTTPS"}, false}, {"HTTPS:x", []string{"https"}, true}, {"HTTPS:x", []string{"HTTPS", "https"}, true}, {"HtTp:x", []string{"a", "http"}, true},
		// The empty text in the list lets nothing more.
		{"https:x", []string{""}, false}, {"https:x", []string{"", "https"}, true}, {"https:x", []string{"https", ""}, true}, {"javascript:x", []string{"", "", "https"}, false}, {"x", []string{""}, true}, {":", []string{""}, true},
		// What is hidden.
		{" jAva\tscr\nipt:x", []string{"https"}, false}, {" jAva\tscr\nipt:x", []string{"javascript"}, true}, {"\x01\x02 \rjavascript:x", nil, false}, {"\x00\x1F ht\r\ntps:x", []string{"https"}, true}, {"javascript\n:x", []string{"https"}, false},
		{"a+b-c.1:", []string{"a+b-c.1"}, true}, {"A+B-C.1:", []string{"a+b-c.1"}, true}, {"https:javascript:x", []string{"javascript"}, false}, {"https:javascript:x", []string{"https"}, true},
	} {
		if got := Safe(x.link, x.schemes); got != x.want {
			t.Errorf("Safe(%q, %q): %v", x.link, x.schemes, got)
		}
	}
}

// P10.1: a link without a scheme is safe with whatever list.
func TestSafeWithout(t *testing.T) {
	lists := [][]string{nil, {}, {""}, {"https"}, {"a", "b", ""}, {"java script", ":", "/", "1a"}}
	for _, link := range []string{"", "x", "//x", "/a:b", "?a:b", "#a:b", "1a:", ":", ":a", " ", "\t", " \t\n\r", "a b:", "java script:x", "\u00A0javascript:x", "javascript", "\xFF:", "a\xFF:", "a_:", "java\x00script:x"} {
		for _, l := range lists {
			if !Safe(link, l) {
				t.Errorf("Safe(%q, %q): false", link, l)
			}
		}
	}
}

// R4: the list, and what lies in the room behind its end, stays as it was, and the room is not looked at.
func TestListStays(t *testing.T) {
	whole := []string{"mailto", "HTTP", "", "http", "javascript"}
	before := slices.Clone(whole)
	for n := range len(whole) {
		for _, link := range []string{"http:x", "HTTP:x", "javascript:x", "mailto:x", "x"} {
			got := Safe(link, whole[:n])
			if want := Safe(link, slices.Clone(whole[:n])); got != want {
				t.Errorf("Safe(%q, %q): %v with room behind, %v without", link, whole[:n], got, want)
			}
			if !slices.Equal(whole, before) {
				t.Fatalf("Safe(%q): the list is now %q", link, whole)
			}
		}
	}
	if Safe("javascript:x", whole[:4]) {
		t.Error("what lies behind the list's end is let")
	}
}

// R1: long links, and a long list, end, and are told as short ones are.
func TestLong(t *testing.T) {
	const many = 1 << 20
	a, hidden := strings.Repeat("a", many), strings.Repeat("\t\n\r", many)
	check(t, a, none)
	check(t, a+":", a)
	check(t, strings.ToUpper(a)+":"+a, a)
	check(t, a+" :", none)
	check(t, hidden, none)
	check(t, strings.Repeat("\x00 \t", many)+"A"+hidden+"b"+hidden+":"+hidden, "ab")
	check(t, "a:"+strings.Repeat(":", many), "a")
	list := slices.Repeat([]string{"b"}, many)
	if Safe("a:", list) || !Safe("a:", append(list, "a")) || !Safe(a+":", []string{a}) || Safe(a+"a:", []string{a}) {
		t.Error("Safe of what is long")
	}
}
