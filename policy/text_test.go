package policy

import (
	"strings"
	"testing"

	"marginalia/api"
)

// parses: a text is parsed as that policy, by the program and by the second reading.
func parses(t *testing.T, s string, want api.Policy) {
	t.Helper()
	if p, n, e := Parse(s); e != api.OK || n != 0 || !samePolicy(p, want) {
		t.Errorf("Parse(%q): %s, %d, %d; want %s", s, show(p), n, e, show(want))
	}
	heldText(t, s)
}

// refuses: a text is no policy's, with that line and that error, and nothing beside them.
func refuses(t *testing.T, s string, line int, want api.Errno) {
	t.Helper()
	if p, n, e := Parse(s); e != want || n != line || !samePolicy(p, api.Policy{}) {
		t.Errorf("Parse(%q): %s, %d, %d; want %d, %d", s, show(p), n, e, line, want)
	}
	heldText(t, s)
}

// deep: a policy that says nothing else.
func deep(n int) api.Policy { return api.Policy{Deep: n} }

func list(words string) []string { return strings.Fields(words) }

// P11.1: the chapter's examples.
func TestExamples(t *testing.T) {
	const text = "deep 3\nelement b\nelement a href\nlink href\nscheme https"
	p := api.Policy{Deep: 3, Rules: []api.Rule{{Name: "b"}, {Name: "a", Attrs: list("href")}}, Links: list("href"), Schemes: list("https")}
	parses(t, text, p)
	parses(t, text+"\n", p)
	href := func(v string) api.Attr { return api.Attr{Name: "href", Value: v} }
	if !Element(p, "b") || !Element(p, "a") || !Attr(p, "a", href("https:x")) || !Attr(p, "a", href("x")) || Attr(p, "a", href("http:x")) || Attr(p, "b", href("x")) {
		t.Error("what it lets")
	}
	refuses(t, "deep 03", 1, api.ErrText)
	refuses(t, "element script", 0, api.ErrArg)
	refuses(t, "deep 3\nelement script", 0, api.ErrArg)
}

// P11.1: `deep` and its number.
func TestParseDeep(t *testing.T) {
	for _, s := range []string{"deep 1", "deep 1\n", " deep 1", "deep  1", "deep 1 ", "   deep   1   ", "\n\ndeep 1\n\n", "deep 2\ndeep 1", "deep 0\ndeep 1", "deep 99\ndeep 1", "deep 3\ndeep 2\ndeep 1", "deep 1\ndeep 1"} {
		parses(t, s, deep(1))
	}
	for _, x := range []struct {
		s string
		n int
	}{{"deep 2", 2}, {"deep 9", 9}, {"deep 10", 10}, {"deep 19", 19}, {"deep 20", 20}, {"deep 37", 37}, {"deep 59", 59}, {"deep 60", 60}, {"deep 1\ndeep 60", 60}} {
		parses(t, x.s, deep(x.n))
	}
	for _, s := range []string{"", "\n", " ", "#", "# deep 1", "deep 0", "deep 61", "deep 70", "deep 99", "deep 1\ndeep 0", "deep 1\ndeep 61", "element b", "link x"} {
		refuses(t, s, 0, api.ErrArg)
	}
	for _, s := range []string{
		"deep", "deep ", "deep 1 2", "deep 1 1", "deep 1 x", "deep x 1", "deep 00", "deep 01", "deep 03", "deep 09", "deep 000", "deep 001", "deep 100", "deep 123", "deep 999", "deep 60000000000000000000",
		"deep -1", "deep +1", "deep -", "deep 1.", "deep 1a", "deep a", "deep a1", "deep 0x1", "deep x", "deep 1_", "deep 1e", "deep /", "deep :", "deep 1/", "deep 1:", "deep /1", "deep :1",
		"deep1", "deep\t1", "deep 1\t", "deep \t1", "deep 1\r", "deep one", "deep #", "deep 1 #", "deep \u0661", "deep \uFF11", "deep \xB9", "Deep 1", "DEEP 1", "dee 1", "deeps 1", "deep, 1", "deep=1", "1", "1 deep", "ddeep 1", "deep deep 1", "deep element b",
	} {
		refuses(t, s, 1, api.ErrText)
		refuses(t, "deep 1\n"+s, 2, api.ErrText)
		refuses(t, s+"\ndeep 1", 1, api.ErrText)
	}
}

// P11.1: each byte, and each two, as the number behind `deep`.
func TestParseDeepByByte(t *testing.T) {
	for i := range 256 {
		a := string([]byte{byte(i)})
		heldText(t, "deep "+a)
		for j := range 256 {
			heldText(t, "deep "+a+string([]byte{byte(j)}))
		}
		for n := range 10 {
			heldText(t, "deep 1"+a+string(rune('0'+n)))
		}
	}
	for n := range 1000 {
		s := strings.TrimLeft(string([]byte{'0' + byte(n/100), '0' + byte(n/10%10), '0' + byte(n%10)}), "0")
		switch {
		case n >= 1 && n <= 60:
			parses(t, "deep "+s, deep(n))
		case n >= 100:
			refuses(t, "deep "+s, 1, api.ErrText)
		case n > 60:
			refuses(t, "deep "+s, 0, api.ErrArg)
		}
	}
}

// P11.1: rules, each line one, in order.
func TestParseElements(t *testing.T) {
	parses(t, "deep 1\nelement b", api.Policy{Deep: 1, Rules: []api.Rule{{Name: "b"}}})
	parses(t, "element b\ndeep 1", api.Policy{Deep: 1, Rules: []api.Rule{{Name: "b"}}})
	parses(t, "deep 1\n  element   b   x  y-1 ", api.Policy{Deep: 1, Rules: []api.Rule{{Name: "b", Attrs: list("x y-1")}}})
	parses(t, "deep 1\nelement i z y x\nelement b x z\ndeep 2\nelement a", api.Policy{Deep: 2, Rules: []api.Rule{{Name: "i", Attrs: list("z y x")}, {Name: "b", Attrs: list("x z")}, {Name: "a"}}})
	// The words of other lines are names here.
	parses(t, "deep 1\nelement element element\nelement deep link scheme drop\nelement link deep", api.Policy{Deep: 1, Rules: []api.Rule{{Name: "element", Attrs: list("element")}, {Name: "deep", Attrs: list("link scheme drop")}, {Name: "link", Attrs: list("deep")}}})
	for _, s := range []string{"element", "element ", "  element  ", "elementb", "element\tb", "elements b", "Element b", "b element", "element\r"} {
		refuses(t, "deep 1\n"+s, 2, api.ErrText)
		refuses(t, s+"\nelement b\ndeep 1", 1, api.ErrText)
	}
	// Names may be any words: what they are, Check tells.
	for _, s := range []string{"element B", "element b\t", "element \tb", "element b x\ty", "element b x\r", "element b\r", "element b #", "element #", "element 1", "element -", "element b x x", "element \xC3\xA9", "element b \xFF", "element \x80", "element b \x00", "element b,c", "element td", "element b style", "element b\nelement b", "element " + strings.Repeat("x", 21)} {
		refuses(t, "deep 1\n"+s, 0, api.ErrArg)
		refuses(t, "deep 1\n"+s+"\nx", strings.Count(s, "\n")+3, api.ErrText)
	}
}

// P11.1: `link`, `scheme` and `drop`, with names, without, and twice.
func TestParseLists(t *testing.T) {
	put := func(word string, names string) api.Policy {
		p := api.Policy{Deep: 1}
		switch word {
		case "link":
			p.Links = list(names)
		case "scheme":
			p.Schemes = list(names)
		case "drop":
			p.Drops = list(names)
		}
		return p
	}
	for _, word := range []string{"link", "scheme", "drop"} {
		for _, x := range []struct{ s, names string }{
			{"W", ""}, {"W ", ""}, {" W", ""}, {"  W  ", ""}, {"W\nW", ""}, {"W x", "x"}, {"  W   x  ", "x"}, {"W z x y", "z x y"}, {"W x\nW", "x"}, {"W\nW x", "x"}, {"W x\nW y", "x y"}, {"W y\n\nW x z\n# W\nW a", "y x z a"},
			{"W deep element link scheme drop", "deep element link scheme drop"}, {"W W", word}, {"W " + strings.Repeat("x", 20), strings.Repeat("x", 20)},
		} {
			s := strings.ReplaceAll(x.s, "W", word)
			parses(t, "deep 1\n"+s, put(word, x.names))
			parses(t, s+"\ndeep 1\n", put(word, x.names))
		}
		for _, s := range []string{"W x x", "W x\nW x", "W x\nW y\nW z x", "W X", "W 1", "W x\t", "W \t", "W x\r", "W \xFF", "W x,y", "W #", "W x # y", "W -", "W " + strings.Repeat("x", 21)} {
			refuses(t, "deep 1\n"+strings.ReplaceAll(s, "W", word), 0, api.ErrArg)
		}
		for _, s := range []string{"Wx", "Ws x", "W\t", "W\tx", "W\r", "W:", "W#", "#\nW=x", "\n W, x"} {
			refuses(t, "deep 1\n"+strings.ReplaceAll(s, "W", word), 2+strings.Count(s, "\n"), api.ErrText)
		}
		refuses(t, "deep 1\n"+strings.ToUpper(word)+" x", 2, api.ErrText)
		refuses(t, "deep 1\n"+word[:len(word)-1]+" x", 2, api.ErrText)
		refuses(t, "deep 1\n"+word+" "+strings.Join(wide(21), " "), 0, api.ErrLarge)
		refuses(t, "deep 0\n"+word+" "+strings.Join(wide(21), " "), 0, api.ErrLarge)
		refuses(t, "deep 1\n"+word+" "+strings.Join(wide(11), " ")+"\n"+word+" "+strings.Join(wide(10), " "), 0, api.ErrLarge)
		parses(t, "deep 1\n"+word+" "+strings.Join(wide(20), " "), put(word, strings.Join(wide(20), " ")))
	}
	all := api.Policy{Deep: 1, Links: list("x"), Schemes: list("x"), Drops: list("x")}
	parses(t, "drop x\nscheme x\nlink x\ndeep 1", all)
	parses(t, "link x\ndeep 1\nscheme x\ndrop x", all)
	refuses(t, "deep 1\nscheme data", 0, api.ErrArg)
	refuses(t, "deep 1\ndrop b\nelement b", 0, api.ErrArg)
	parses(t, "deep 1\nlink data\ndrop data", api.Policy{Deep: 1, Links: list("data"), Drops: list("data")})
}

// P11.1: the first line that says something else: as the first, a later one, the last, with a line feed or without, behind notes and empty lines.
func TestFirstBadLine(t *testing.T) {
	const bad = "what"
	for ahead := range 30 {
		lines := []string{"deep 1", "", "# note", "   ", "element b", "link x", "scheme", "#what", "drop z", "deep 0"}
		var first []string
		for i := range ahead {
			first = append(first, lines[i%len(lines)])
		}
		text := strings.Join(append(first, bad), "\n")
		refuses(t, text, ahead+1, api.ErrText)
		refuses(t, text+"\n", ahead+1, api.ErrText)
		refuses(t, text+"\n\n\n", ahead+1, api.ErrText)
		// What follows does not count: not another one, not what Check would tell.
		refuses(t, text+"\n"+bad+"\n"+bad, ahead+1, api.ErrText)
		refuses(t, text+"\nelement script\nlink "+strings.Join(wide(21), " "), ahead+1, api.ErrText)
		refuses(t, strings.Repeat("\n", ahead)+bad, ahead+1, api.ErrText)
		refuses(t, strings.Repeat("# note\n", ahead)+bad+"\n", ahead+1, api.ErrText)
		refuses(t, strings.Repeat(" \n", ahead)+"deep", ahead+1, api.ErrText)
	}
	// What Check would tell of what stands ahead does not count either.
	refuses(t, "deep 0\nelement script\nlink "+strings.Join(wide(21), " ")+"\nwhat", 4, api.ErrText)
	// A line feed alone ends a line.
	for _, end := range []string{"\r", "\x0B", "\f", "\x85", "\u0085", "\u2028", "\x00", ";"} {
		refuses(t, "deep 1"+end+"deep 2", 1, api.ErrText)
		refuses(t, "\n#"+end+"\nwhat"+end, 3, api.ErrText)
	}
	parses(t, "# a\rdeep 9\ndeep 1", deep(1))
	refuses(t, "deep 1\r\ndeep 2\r\n", 1, api.ErrText)
}

// P11.1: a line with # as its first byte says nothing more; elsewhere # is a byte as others are.
func TestNotes(t *testing.T) {
	for _, note := range []string{"#", "##", "# ", "#x", "# deep 2", "#deep 2", "# what", "#\t\r\x00\xFF", "#" + strings.Repeat("x", 1900)} {
		parses(t, note+"\ndeep 1", deep(1))
		parses(t, "deep 1\n"+note, deep(1))
		parses(t, "deep 1\n"+note+"\n", deep(1))
	}
	for _, s := range []string{" #", "  # note", "\t#", "x#", "deep 1 # note", "deep 1#", "deep #1", "deep# 1", "\xEF\xBB\xBF# note", "- #"} {
		refuses(t, "deep 1\n"+s, 2, api.ErrText)
	}
	for _, s := range []string{"element b # note", "element #b", "link # x", "scheme x #", "drop #"} {
		refuses(t, "deep 1\n"+s, 0, api.ErrArg)
	}
}

// P11.1: blanks are 32 alone: each other byte is a word's, by itself a line that says something else.
func TestEachByteInLines(t *testing.T) {
	for i := range 256 {
		c := string([]byte{byte(i)})
		switch c {
		case " ", "\n", "#":
			parses(t, c+"\ndeep 1", deep(1))
		default:
			refuses(t, "deep 1\n"+c, 2, api.ErrText)
			refuses(t, "deep 1\n "+c+" \ndeep 1", 2, api.ErrText)
			refuses(t, c+"deep 1", 1, api.ErrText)
		}
		// Behind a word, and between two.
		if c == " " || c == "\n" {
			parses(t, "deep 10"+c, deep(10))
			continue
		}
		refuses(t, "deep 10"+c, 1, api.ErrText)
		refuses(t, "deep"+c+"10", 1, api.ErrText)
		refuses(t, "deep 1\nlink"+c+"x", 2, api.ErrText)
		if !saidName.MatchString("x" + c) {
			refuses(t, "deep 1\nlink x"+c+"y", 0, api.ErrArg)
			refuses(t, "deep 1\nelement b x "+c, 0, api.ErrArg)
		}
	}
}

// P11.1: nor are other blanks than 32 any that are written in several bytes.
func TestOtherBlanks(t *testing.T) {
	for _, c := range []string{"\u00A0", "\u0085", "\u1680", "\u2003", "\u2028", "\u202F", "\u3000", "\uFEFF", "\uFFFD", "\xC2", "\xA0", "\xE2\x80"} {
		refuses(t, "deep"+c+"1", 1, api.ErrText)
		refuses(t, "deep 1"+c, 1, api.ErrText)
		refuses(t, "deep 1\n"+c, 2, api.ErrText)
		refuses(t, "deep 1\nlink"+c, 2, api.ErrText)
		refuses(t, "deep 1\nlink x"+c+"y", 0, api.ErrArg)
		refuses(t, "deep 1\nlink "+c, 0, api.ErrArg)
		refuses(t, "deep 1\nelement "+c+"b", 0, api.ErrArg)
	}
}

// sized: a text of so many bytes that says just `deep 1`, by its last line.
func sized(n int) string {
	const last = "\ndeep 1"
	return "#" + strings.Repeat("x", n-len(last)-1) + last
}

// P11.1: texts of MaxPolicy bytes, and of one more; ErrLarge is told ahead of all else.
func TestLargeTexts(t *testing.T) {
	parses(t, sized(api.MaxPolicy-1), deep(1))
	parses(t, sized(api.MaxPolicy), deep(1))
	refuses(t, sized(api.MaxPolicy+1), 0, api.ErrLarge)
	refuses(t, sized(1<<20), 0, api.ErrLarge)
	refuses(t, "what"+strings.Repeat("x", api.MaxPolicy-4), 1, api.ErrText)
	refuses(t, "what"+strings.Repeat("x", api.MaxPolicy-3), 0, api.ErrLarge)
	refuses(t, "what\n"+sized(api.MaxPolicy-4), 0, api.ErrLarge)
	refuses(t, strings.Repeat("\n", api.MaxPolicy), 0, api.ErrArg)
	refuses(t, strings.Repeat("\n", api.MaxPolicy+1), 0, api.ErrLarge)
	refuses(t, strings.Repeat("\n", api.MaxPolicy-1)+"x", api.MaxPolicy, api.ErrText)
	refuses(t, strings.Repeat(" ", api.MaxPolicy+1), 0, api.ErrLarge)
	parses(t, "deep 1"+strings.Repeat(" ", api.MaxPolicy-6), deep(1))
	// Bytes count, not letters.
	refuses(t, "deep 1\n#"+strings.Repeat("é", 997), 0, api.ErrLarge)
	parses(t, "deep 1\n#"+strings.Repeat("é", 996), deep(1))
}

// P11.1: too many rules, names, in a text that is not too large.
func TestManyInTexts(t *testing.T) {
	text := func(n int) string {
		s := "deep 1\n"
		for _, r := range rules(n) {
			s += "element " + r.Name + "\n"
		}
		return s
	}
	parses(t, text(40), api.Policy{Deep: 1, Rules: rules(40)})
	refuses(t, text(41), 0, api.ErrLarge)
	refuses(t, text(41)+"element script\ndeep 0\nelement b b", 0, api.ErrLarge)
	refuses(t, strings.Repeat("element b\n", 41), 0, api.ErrLarge)
	refuses(t, strings.Repeat("element b\n", 40), 0, api.ErrArg)
	parses(t, "deep 1\nelement b "+strings.Join(wide(20), " "), api.Policy{Deep: 1, Rules: []api.Rule{{Name: "b", Attrs: wide(20)}}})
	refuses(t, "deep 1\nelement b "+strings.Join(wide(21), " "), 0, api.ErrLarge)
	refuses(t, "element script on "+strings.Join(wide(21), " "), 0, api.ErrLarge)
	refuses(t, "link"+strings.Repeat(" x", 998), 0, api.ErrLarge)
}

// prints: a policy is printed so, by the program and by the second reading.
func prints(t *testing.T, p api.Policy, want string) {
	t.Helper()
	if s, e := Print(p); s != want || e != api.OK {
		t.Errorf("Print(%s): %q, %d; want %q", show(p), s, e, want)
	}
	if s, e := saidPrint(p); s != want || e != api.OK {
		t.Errorf("the second reading prints %s as %q, %d; want %q", show(p), s, e, want)
	}
}

// P11.1: what is printed, line by line; what may not be is not printed.
func TestPrint(t *testing.T) {
	prints(t, deep(1), "deep 1\n")
	prints(t, deep(9), "deep 9\n")
	prints(t, deep(10), "deep 10\n")
	prints(t, deep(60), "deep 60\n")
	prints(t, api.Policy{Deep: 1, Rules: []api.Rule{{Name: "b"}}}, "deep 1\nelement b\n")
	prints(t, api.Policy{Deep: 1, Rules: []api.Rule{{Name: "i", Attrs: list("z y x")}, {Name: "b"}, {Name: "a", Attrs: list("q")}}}, "deep 1\nelement i z y x\nelement b\nelement a q\n")
	prints(t, api.Policy{Deep: 1, Links: list("z x")}, "deep 1\nlink z x\n")
	prints(t, api.Policy{Deep: 1, Schemes: list("z x")}, "deep 1\nscheme z x\n")
	prints(t, api.Policy{Deep: 1, Drops: list("z x")}, "deep 1\ndrop z x\n")
	prints(t, api.Policy{Deep: 2, Rules: []api.Rule{{Name: "drop", Attrs: list("deep")}}, Links: list("b a"), Schemes: list("d c"), Drops: list("f e")}, "deep 2\nelement drop deep\nlink b a\nscheme d c\ndrop f e\n")
	prints(t, api.Policy{Deep: 2, Links: list("a"), Drops: list("b")}, "deep 2\nlink a\ndrop b\n")
	for _, x := range []struct {
		p    api.Policy
		want api.Errno
	}{
		{api.Policy{}, api.ErrArg}, {deep(0), api.ErrArg}, {deep(-1), api.ErrArg}, {deep(61), api.ErrArg}, {api.Policy{Deep: 1, Links: list("X")}, api.ErrArg}, {api.Policy{Deep: 1, Links: []string{"a\nb"}}, api.ErrArg}, {api.Policy{Deep: 1, Drops: []string{""}}, api.ErrArg},
		{api.Policy{Deep: 1, Links: wide(21)}, api.ErrLarge}, {api.Policy{Rules: rules(41)}, api.ErrLarge},
	} {
		if s, e := Print(x.p); s != "" || e != x.want {
			t.Errorf("Print(%s): %q, %d", show(x.p), s, e)
		}
	}
}
