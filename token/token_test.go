package token

import (
	"math"
	"reflect"
	"slices"
	"strconv"
	"strings"
	"testing"

	"marginalia/api"
)

var modes = []api.Mode{api.ModeData, api.ModeRcdata, api.ModeRaw, api.ModePlain, -1, 4, 99}

// short: a token in short.
func short(t api.Token) string {
	s := [...]string{"end", "text", "start", "stop", "comment", "doctype"}[t.Kind]
	if t.Name != "" || t.Kind == api.TokenStart || t.Kind == api.TokenStop {
		s += " " + t.Name
	}
	for _, a := range t.Attrs {
		s += " " + a.Name + "=" + strconv.Quote(a.Value)
	}
	if t.Closed {
		s += " closed"
	}
	if t.Text != "" {
		s += " " + strconv.Quote(t.Text)
	}
	return s
}

// alike: two tokens, of which nil and the empty list are the same.
func alike(a, b api.Token) bool {
	return a.Kind == b.Kind && a.Name == b.Name && a.Closed == b.Closed && a.Text == b.Text && slices.Equal(a.Attrs, b.Attrs)
}

// all: the tokens of s in short, each behind a semicolon.
func all(s string) string {
	var out []string
	for _, t := range All(s) {
		out = append(out, short(t))
	}
	return strings.Join(out, "; ")
}

func checkAll(t *testing.T, pairs [][2]string) {
	t.Helper()
	for _, x := range pairs {
		if got := all(x[0]); got != x[1] {
			t.Errorf("All(%q): %s, not %s", x[0], got, x[1])
		}
	}
}

type one struct {
	s    string
	at   int
	mode api.Mode
	name string
	want string
	end  int
}

func checkNext(t *testing.T, foreign bool, l []one) {
	t.Helper()
	for _, x := range l {
		got, end := Next(x.s, x.at, x.mode, x.name, foreign)
		if short(got) != x.want || end != x.end {
			t.Errorf("Next(%q, %d, %d, %q, %v): %s, %d, not %s, %d", x.s, x.at, x.mode, x.name, foreign, short(got), end, x.want, x.end)
		}
	}
}

// P4.1: the chapter's examples.
func TestExamples(t *testing.T) {
	checkAll(t, [][2]string{
		{"a<b>c", `text "a"; start b; text "c"`},
		{"<A hRef='x&lt;' b/>", `start a href="x<" b="" closed`},
		{"a < b", `text "a < b"`},
		{"<a b", ""},
	})
	checkNext(t, false, []one{
		{"<b></xmp>", 0, api.ModeRaw, "xmp", `text "<b>"`, 3},
		{"<b></xmp>", 3, api.ModeRaw, "xmp", "stop xmp", 9},
	})
}

// P4.1: where markup begins, and where not.
func TestMarkup(t *testing.T) {
	checkAll(t, [][2]string{
		{"", ""}, {"x", `text "x"`}, {"<", `text "<"`}, {"a<", `text "a<"`}, {"< ", `text "< "`}, {"<1>", `text "<1>"`}, {"<<", `text "<<"`}, {"<>", `text "<>"`}, {"<=a>", `text "<=a>"`}, {"<\xC3\xA9>", "text \"<\u00E9>\""},
		{"<<b>", `text "<"; start b`}, {"a<1<b>c", `text "a<1"; start b; text "c"`},
		{"<a>", "start a"}, {"<Z>", "start z"}, {"<z", ""}, {"<@>", `text "<@>"`}, {"<[>", `text "<[>"`}, {"<`>", "text \"<`>\""}, {"<{>", `text "<{>"`},
		{"</", `text "</"`}, {"a</", `text "a</"`}, {"</>", ""}, {"a</>b", `text "a"; text "b"`}, {"</></></>", ""}, {"</></>x</>", `text "x"`}, {"</></a>", "stop a"},
		{"</ >", `comment " "`}, {"</1>x", `comment "1"; text "x"`}, {"</ ", `comment " "`}, {"<//>", `comment "/"`}, {"</?>", `comment "?"`}, {"</!--x-->", `comment "!--x--"`}, {"</\x00", "comment \"\\x00\""},
		{"</a>", "stop a"}, {"</A>", "stop a"}, {"</a", ""}, {"x</a", `text "x"`},
		{"<!", "comment"}, {"<!>", "comment"}, {"<!x", `comment "x"`}, {"<!x>y", `comment "x"; text "y"`}, {"<!-", `comment "-"`}, {"<!->x", `comment "-"; text "x"`}, {"<!-x->y", `comment "-x-"; text "y"`}, {"<! --x-->", `comment " --x--"`}, {"<!a<b>c", `comment "a<b"; text "c"`},
		{"<?", `comment "?"`}, {"<?>", `comment "?"`}, {"<?x?>y", `comment "?x?"; text "y"`}, {"<?a<b", `comment "?a<b"`}, {"<?&lt;>", `comment "?&lt;"`},
		{"x<!y", `text "x"; comment "y"`}, {"x<?", `text "x"; comment "?"`},
	})
}

// P4.1: texts are decoded as outside of attributes, each by itself.
func TestText(t *testing.T) {
	checkAll(t, [][2]string{
		{"&lt;b>", `text "<b>"`}, {"&ltx", `text "<x"`}, {"&lt=1", `text "<=1"`}, {"&", `text "&"`}, {"&#60;b>", `text "<b>"`}, {"&am<b>p;", `text "&am"; start b; text "p;"`}, {"&lt</>lt;", `text "<"; text "lt;"`},
		{"a\x00\xFF\r\n>b", `text "a\x00\xff\r\n>b"`}, {"]]>", `text "]]>"`}, {"-->", `text "-->"`}, {"/>", `text "/>"`},
	})
}

// P4.1: a tag's name, and what ends it.
func TestTagName(t *testing.T) {
	checkAll(t, [][2]string{
		{"<DiV>", "start div"}, {"<a1-_:.\u00C4\xFF\x00>", "start a1-_:.\u00C4\xFF\x00"}, {"<a=b>", "start a=b"}, {"<a\"b'>", "start a\"b'"}, {"<a<b>", "start a<b"}, {"<a!--x-->", "start a!--x--"}, {"<a&lt;>", "start a&lt;"},
		{"<a\tb>", `start a b=""`}, {"<a\nb>", `start a b=""`}, {"<a\fb>", `start a b=""`}, {"<a\rb>", `start a b=""`}, {"<a b>", `start a b=""`}, {"<a\vb>", "start a\vb"}, {"<a\u00A0b>", "start a\u00A0b"}, {"<a/b>", `start a b=""`},
		{"<K\u212A>", "start k\u212A"}, {"</K\u212A>", "stop k\u212A"},
		{"</B>", "stop b"}, {"</b >", "stop b"}, {"</b/>", "stop b"}, {"</b\nc=d e>f", `stop b; text "f"`}, {"</b c='>'>d", `stop b; text "d"`}, {"</b", ""}, {"</b c='", ""},
	})
}

// P4.1: a tag that does not end is nothing, and all that is left with it.
func TestOpenTag(t *testing.T) {
	for _, s := range []string{"<a", "<ab", "<a ", "<a/", "<a b", "<a b ", "<a b=", "<a b= ", "<a b=c", "<a b=c ", "<a b=c/", "<a b='", "<a b=\"", "<a b='c", "<a b=\"c", "<a b='c'", "<a b='c' ", "<a b='c'/", "<a b=\"x>y", "<a b='\">", "<a =", "<a ==", "<a /", "<a b='><i>x</i>", "</a", "</a ", "</a/", "</a b='>"} {
		for _, ahead := range []string{"", "x", "<i>"} {
			want := all(ahead)
			if got := all(ahead + s); got != want {
				t.Errorf("All(%q): %s, not %s", ahead+s, got, want)
			}
			got, end := Next(ahead+s, len(ahead), api.ModeData, "", false)
			if !alike(got, api.Token{}) || end != len(ahead+s) {
				t.Errorf("Next(%q, %d): %s, %d", ahead+s, len(ahead), short(got), end)
			}
		}
	}
}

// P4.1: a tag is closed by a stroke that is passed right ahead of its end.
func TestClosed(t *testing.T) {
	checkAll(t, [][2]string{
		{"<a/>", "start a closed"}, {"<a />", "start a closed"}, {"<a//>", "start a closed"}, {"<a/ />", "start a closed"}, {"<a/ >", "start a"}, {"<a / >", "start a"}, {"<a/\n>", "start a"}, {"<a >", "start a"},
		{"<a b/>", `start a b="" closed`}, {"<a b />", `start a b="" closed`}, {"<a b/ >", `start a b=""`}, {"<a b/c>", `start a b="" c=""`}, {"<a/b/>", `start a b="" closed`}, {"<a /b>", `start a b=""`},
		{"<a b=c/>", `start a b="c/"`}, {"<a b=c />", `start a b="c" closed`}, {"<a b=/>", `start a b="/"`}, {"<a b= />", `start a b="/"`}, {"<a b=//>", `start a b="//"`}, {"<a b=/c>", `start a b="/c"`},
		{"<a b=\"c\"/>", `start a b="c" closed`}, {"<a b='c'/ >", `start a b="c"`}, {"<a b='/'>", `start a b="/"`}, {"<a b=''/>", `start a b="" closed`},
		{"<a b/=c>", `start a b="" =c=""`}, {"<a b/ =c/>", `start a b="" =c="" closed`},
		{"</a/>", "stop a"}, {"</a b />", "stop a"},
	})
}

// P4.1: attributes, their names and values.
func TestAttrs(t *testing.T) {
	checkAll(t, [][2]string{
		{"<a b=c>", `start a b="c"`}, {"<a B=C>", `start a b="C"`}, {"<a b = c>", `start a b="c"`}, {"<a b\n=\t'c'>", `start a b="c"`}, {"<a b =c d>", `start a b="c" d=""`}, {"<a b c>", `start a b="" c=""`},
		{"<a b=>", `start a b=""`}, {"<a b= >", `start a b=""`}, {"<a b=''>", `start a b=""`}, {"<a b=\"\" c>", `start a b="" c=""`}, {"<a b=  c>", `start a b="c"`},
		{"<a =>", `start a ==""`}, {"<a ==>", `start a ==""`}, {"<a ==b>", `start a =="b"`}, {"<a =x=y>", `start a =x="y"`}, {"<a = b>", `start a =="" b=""`}, {"<a = =b>", `start a =="b"`}, {"<a b==c>", `start a b="=c"`}, {"<a b=c=d>", `start a b="c=d"`},
		{"<a b=\"x>y\" c>", `start a b="x>y" c=""`}, {"<a b='x\"y'>", `start a b="x\"y"`}, {"<a b=\"x'y\">", `start a b="x'y"`}, {"<a b=x'y>", `start a b="x'y"`}, {"<a b=x\"y z\">", `start a b="x\"y" z"=""`}, {"<a b='c'd>", `start a b="c" d=""`}, {"<a b='c'd='e'>", `start a b="c" d="e"`}, {"<a b='c'=d>", `start a b="c" =d=""`}, {"<a b=''''>", `start a b="" ''=""`},
		{"<a \"b\">", `start a "b"=""`}, {"<a 'b>", `start a 'b=""`}, {"<a <b>", `start a <b=""`}, {"<a b<c=d<e>", `start a b<c="d<e"`}, {"<a &lt;=x>", `start a &lt;="x"`}, {"<a \x00=\x00>", "start a \x00=\"\\x00\""}, {"<a \xFF\u00C4=\xFF>", "start a \xFF\u00C4=\"\\xff\""},
		{"<a b='c\nd\t e'>", `start a b="c\nd\t e"`}, {"<a b=c\nd>", `start a b="c" d=""`}, {"<a b=c\vd>", `start a b="c\vd"`}, {"<a b\vc=d>", "start a b\vc=\"d\""},
		{"<a b=1 b=2>", `start a b="1"`}, {"<a b=1 B=2 c b>", `start a b="1" c=""`}, {"<a b B=2>", `start a b=""`}, {"<a b=1 c=2 b=3 c=4 d=5>", `start a b="1" c="2" d="5"`}, {"<a \u00E9=1 \u00C9=2>", "start a \u00E9=\"1\" \u00C9=\"2\""}, {"<a b='' b=x/>", `start a b=""`}, {"<a b b/>", `start a b="" closed`},
		{"<a b='&lt;&ltx&lt'>", `start a b="<&ltx<"`}, {"<a b=\"&amp;&quot;&#39;\">", `start a b="&\"'"`}, {"<a b=&lt;>", `start a b="<"`}, {"<a b=&lt>", `start a b="<"`}, {"<a b=&lt=>", `start a b="&lt="`}, {"<a b=&ltx c=&copy;>", "start a b=\"&ltx\" c=\"\u00A9\""}, {"<a b=&#62;c&gt;>", `start a b=">c>"`}, {"<a b=&#32;c>", `start a b=" c"`}, {"<a b='&#x27;'>", `start a b="'"`},
		{"</a b=c d='e'>f", `stop a; text "f"`},
	})
}

// P4.1: comments, and all their ends.
func TestComments(t *testing.T) {
	checkAll(t, [][2]string{
		{"<!-->x", `comment; text "x"`}, {"<!--->x", `comment; text "x"`}, {"<!---->x", `comment; text "x"`}, {"<!----!>x", `comment; text "x"`}, {"<!----->x", `comment "-"; text "x"`}, {"<!---!>x", `comment "-!>x"`},
		{"<!--a-->b", `comment "a"; text "b"`}, {"<!--a--!>b", `comment "a"; text "b"`}, {"<!--a--->b", `comment "a-"; text "b"`}, {"<!--a->b-->", `comment "a->b"`}, {"<!--a>b-->", `comment "a>b"`}, {"<!--a--!b-->", `comment "a--!b"`}, {"<!--a-- >b-->", `comment "a-- >b"`}, {"<!--a--!-->b", `comment "a--!"; text "b"`}, {"<!--a--!>b-->", `comment "a"; text "b-->"`}, {"<!--a-->b--!>", `comment "a"; text "b--!>"`}, {"<!--a-!>b", `comment "a-!>b"`}, {"<!-- > -->", `comment " > "`}, {"<!-- -> -->", `comment " -> "`}, {"<!--<!--a-->b-->", `comment "<!--a"; text "b-->"`},
		{"<!--&lt;<b>\xFF\n-->", `comment "&lt;<b>\xff\n"`},
		{"<!--", "comment"}, {"<!---", "comment"}, {"<!----", "comment"}, {"<!-----", `comment "-"`}, {"<!----!", "comment"}, {"<!---!", `comment "-!"`}, {"<!--!", `comment "!"`},
		{"<!--a", `comment "a"`}, {"<!--a-", `comment "a"`}, {"<!--a--", `comment "a"`}, {"<!--a--!", `comment "a"`}, {"<!--a---", `comment "a-"`}, {"<!--a----", `comment "a--"`}, {"<!--a-!", `comment "a-!"`}, {"<!--a--!-", `comment "a--!"`}, {"<!--a--!--", `comment "a--!"`}, {"<!--a--!--!", `comment "a--!"`}, {"<!--a->", `comment "a->"`}, {"<!--a-- ", `comment "a-- "`}, {"<!--a<b>c", `comment "a<b>c"`},
	})
}

// P4.1: doctypes, which have nothing.
func TestDoctypes(t *testing.T) {
	checkAll(t, [][2]string{
		{"<!doctype>x", `doctype; text "x"`}, {"<!DOCTYPE html>x", `doctype; text "x"`}, {"<!dOcTyPe\nhtml PUBLIC \"a>b\">c", `doctype; text "b\">c"`}, {"<!doctypes>x", `doctype; text "x"`}, {"<!doctype", "doctype"}, {"<!doctype x<b", "doctype"}, {"a<!doctype/>", `text "a"; doctype`},
		{"<!doctyp>", `comment "doctyp"`}, {"<! doctype>", `comment " doctype"`}, {"</doctype>", "stop doctype"}, {"<doctype>", "start doctype"}, {"<?doctype>", `comment "?doctype"`}, {"<!\u0110octype>", "comment \"\u0110octype\""},
	})
}

// P4.1: CDATA sections, in foreign and not.
func TestCdata(t *testing.T) {
	checkAll(t, [][2]string{
		{"<![CDATA[x]]>y", `comment "[CDATA[x]]"; text "y"`}, {"<![CDATA[x>y]]>z", `comment "[CDATA[x"; text "y]]>z"`}, {"<![CDATA[", `comment "[CDATA["`}, {"<![CDATA[]]>", `comment "[CDATA[]]"`},
	})
	checkNext(t, true, []one{
		{"<![CDATA[x]]>y", 0, api.ModeData, "", `text "x"`, 13}, {"<![CDATA[&lt;<b>]]>y", 0, api.ModeData, "", `text "&lt;<b>"`, 19}, {"<![CDATA[ ]]>", 0, api.ModeData, "", `text " "`, 13},
		{"<![CDATA[x", 0, api.ModeData, "", `text "x"`, 10}, {"<![CDATA[x]]", 0, api.ModeData, "", `text "x]]"`, 12}, {"<![CDATA[]>", 0, api.ModeData, "", `text "]>"`, 11}, {"<![CDATA[]]]>y", 0, api.ModeData, "", `text "]"`, 13}, {"<![CDATA[x]] >y]]>", 0, api.ModeData, "", `text "x]] >y"`, 18},
		{"<![CDATA[]]>y", 0, api.ModeData, "", `text "y"`, 13}, {"<![CDATA[]]>", 0, api.ModeData, "", "end", 12}, {"<![CDATA[", 0, api.ModeData, "", "end", 9}, {"<![CDATA[]]></><![CDATA[]]><b>", 0, api.ModeData, "", "start b", 30},
		{"<![cdata[x]]>", 0, api.ModeData, "", `comment "[cdata[x]]"`, 13}, {"<![CDATA x]]>", 0, api.ModeData, "", `comment "[CDATA x]]"`, 13}, {"<! [CDATA[x]]>", 0, api.ModeData, "", `comment " [CDATA[x]]"`, 14},
		{"a<![CDATA[x]]>", 0, api.ModeData, "", `text "a"`, 1}, {"<![CDATA[x]]>", 0, 77, "", `text "x"`, 13},
		{"<b>", 0, api.ModeData, "", "start b", 3}, {"<!--x-->", 0, api.ModeData, "", `comment "x"`, 8}, {"<!doctype>", 0, api.ModeData, "", "doctype", 10}, {"<?x>", 0, api.ModeData, "", `comment "?x"`, 4},
		{"<![CDATA[x]]>", 0, api.ModeRaw, "b", `text "<![CDATA[x]]>"`, 13}, {"<![CDATA[x]]>", 0, api.ModePlain, "b", `text "<![CDATA[x]]>"`, 13},
	})
}

// P4.1: in ModeRaw and ModeRcdata, what is the end tag, and what is text.
func TestRaw(t *testing.T) {
	for _, mode := range []api.Mode{api.ModeRaw, api.ModeRcdata} {
		checkNext(t, false, []one{
			{"x</a>y", 0, mode, "a", `text "x"`, 1}, {"x</a>y", 1, mode, "a", "stop a", 5}, {"x</a>y", 5, mode, "a", `text "y"`, 6}, {"x</a>y", 6, mode, "a", "end", 6},
			{"</A>", 0, mode, "a", "stop a", 4}, {"</a>", 0, mode, "A", "stop a", 4}, {"</TiTLe >", 0, mode, "tItlE", "stop title", 9},
			{"</a b=c>d", 0, mode, "a", "stop a", 8}, {"</a/>", 0, mode, "a", "stop a", 5}, {"</a b='>'/>x", 0, mode, "a", "stop a", 11},
			{"</a", 0, mode, "a", `text "</a"`, 3}, {"x</a", 0, mode, "a", `text "x</a"`, 4}, {"</a ", 0, mode, "a", "end", 4}, {"</a/", 0, mode, "a", "end", 4}, {"</a b='", 0, mode, "a", "end", 7}, {"x</a b", 0, mode, "a", `text "x"`, 1}, {"x</a b", 1, mode, "a", "end", 6},
			{"</ab>", 0, mode, "a", `text "</ab>"`, 5}, {"</b></a>", 0, mode, "a", `text "</b>"`, 4}, {"</ a></a>", 0, mode, "a", `text "</ a>"`, 5}, {"<a></a>", 0, mode, "a", `text "<a>"`, 3}, {"<</a>", 0, mode, "a", `text "<"`, 1}, {"</</a>", 0, mode, "a", `text "</"`, 2}, {"</a</a>", 0, mode, "a", `text "</a"`, 3}, {"<!--</a>-->", 0, mode, "a", `text "<!--"`, 4}, {"</>", 0, mode, "a", `text "</>"`, 3}, {"<", 0, mode, "a", `text "<"`, 1},
			{"", 0, mode, "a", "end", 0}, {"</K>", 0, mode, "\u212A", `text "</K>"`, 4}, {"</\u212A>", 0, mode, "k", "text \"</\u212A>\"", 6},
			// Names that no tag has.
			{"x</>y", 0, mode, "", `text "x"`, 1}, {"</>y", 0, mode, "", "stop ", 3}, {"</ >y", 0, mode, "", "stop ", 4}, {"</a>y", 0, mode, "", `text "</a>y"`, 5}, {"</", 0, mode, "", `text "</"`, 2}, {"<//>y", 0, mode, "", "stop ", 4}, {"</ ", 0, mode, "", "end", 3},
			{"</a b>", 0, mode, "a b", "stop a", 6}, {"</>>", 0, mode, ">", "stop ", 3}, {"</a", 0, mode, strings.Repeat("a", 100), `text "</a"`, 3},
		})
		for c := range 256 {
			s := "x</A" + string([]byte{byte(c)}) + ">"
			end := 1
			if strings.IndexByte("\t\n\f\r />", byte(c)) < 0 {
				end = len(s)
			}
			if got, n := Next(s, 0, mode, "a", false); n != end || got.Kind != api.TokenText || got.Text != s[:end] {
				t.Errorf("Next(%q, 0, %d, a): %s, %d", s, mode, short(got), n)
			}
		}
	}
	checkNext(t, false, []one{
		{"&lt;&ltx=</a>", 0, api.ModeRaw, "a", `text "&lt;&ltx="`, 9}, {"&lt;&ltx=</a>", 0, api.ModeRcdata, "a", `text "<<x="`, 9},
		{"&lt;/a>&amp", 0, api.ModeRcdata, "a", `text "</a>&"`, 11}, {"&#60;/a></a>", 0, api.ModeRcdata, "a", `text "</a>"`, 8}, {"&lt;", 0, api.ModeRaw, "a", `text "&lt;"`, 4},
	})
}

// P4.1: ModePlain, and modes that are none.
func TestOtherModes(t *testing.T) {
	checkNext(t, false, []one{
		{"a<b>&lt;</a>", 0, api.ModePlain, "a", `text "a<b>&lt;</a>"`, 12}, {"a<b>&lt;</plaintext>", 4, api.ModePlain, "plaintext", `text "&lt;</plaintext>"`, 20}, {"<", 0, api.ModePlain, "", `text "<"`, 1}, {"x", 1, api.ModePlain, "", "end", 1}, {"</a>", 0, api.ModePlain, "a", `text "</a>"`, 4},
		{"<b>&lt;", 0, 4, "b", "start b", 3}, {"<b>&lt;", 3, -1, "b", `text "<"`, 7}, {"</b>", 0, math.MaxInt, "b", "stop b", 4}, {"<![CDATA[x]]>", 0, math.MinInt, "b", `comment "[CDATA[x]]"`, 13},
	})
}

// P4.1: places that are none, in each mode; and each place within.
func TestPlaces(t *testing.T) {
	for _, s := range []string{"", "x", "a<b>c", "</a>", "<a b", "<!--"} {
		for _, mode := range modes {
			for _, at := range []int{-1, -2, math.MinInt, len(s), len(s) + 1, len(s) + 100, math.MaxInt} {
				for _, foreign := range []bool{false, true} {
					if got, end := Next(s, at, mode, "a", foreign); !alike(got, api.Token{}) || got.Attrs != nil || end != len(s) {
						t.Errorf("Next(%q, %d, %d): %s, %d", s, at, mode, short(got), end)
					}
				}
			}
		}
	}
	checkNext(t, false, []one{
		{"a<b c>d", 1, api.ModeData, "", "start b c=\"\"", 6}, {"a<b c>d", 2, api.ModeData, "", `text "b c>d"`, 7}, {"a<b c>d", 6, api.ModeData, "", `text "d"`, 7}, {"<!--x-->", 1, api.ModeData, "", `text "!--x-->"`, 8}, {"&lt;", 1, api.ModeData, "", `text "lt;"`, 4},
	})
}

// P4.1: the first attribute of a name.
func TestGet(t *testing.T) {
	l := []api.Attr{{Name: "a", Value: "1"}, {Name: "b"}, {Name: "a", Value: "2"}, {Name: "", Value: "3"}, {Name: "C", Value: "4"}}
	for _, x := range []struct {
		name, value string
		ok          bool
	}{{"a", "1", true}, {"b", "", true}, {"", "3", true}, {"C", "4", true}, {"c", "", false}, {"A", "", false}, {"a ", "", false}, {"d", "", false}} {
		if v, ok := Get(l, x.name); v != x.value || ok != x.ok {
			t.Errorf("Get(%q): %q, %v", x.name, v, ok)
		}
	}
	for _, none := range [][]api.Attr{nil, {}, l[:0]} {
		if v, ok := Get(none, "a"); v != "" || ok {
			t.Errorf("Get of none: %q, %v", v, ok)
		}
	}
	if got := All("<a b=1 b=2 c=3>"); len(got) != 1 {
		t.Error("no tag")
	} else if v, ok := Get(got[0].Attrs, "b"); v != "1" || !ok {
		t.Errorf("Get of a tag: %q, %v", v, ok)
	}
}

// joined: all texts of just that many of the parts.
func joined(parts []string, many int) []string {
	out := []string{""}
	for range many {
		var next []string
		for _, s := range out {
			for _, p := range parts {
				next = append(next, s+p)
			}
		}
		out = next
	}
	return out
}

// checkSaid: from each place, in each mode, as the second reading has it, and onwards (P4.2).
func checkSaid(t *testing.T, s string, places []int) {
	t.Helper()
	for _, at := range places {
		for _, mode := range modes[:5] {
			for _, foreign := range []bool{false, true} {
				got, end := Next(s, at, mode, "Xmp", foreign)
				want, wantEnd := said(s, at, mode, "Xmp", foreign)
				if !alike(got, want) || end != wantEnd {
					t.Fatalf("Next(%q, %d, %d, Xmp, %v): %s, %d, not %s, %d", s, at, mode, foreign, short(got), end, short(want), wantEnd)
				}
				if end <= at || end > len(s) || got.Kind == api.TokenEnd && end != len(s) {
					t.Fatalf("Next(%q, %d, %d, Xmp, %v): %s, %d: not onwards", s, at, mode, foreign, short(got), end)
				}
			}
		}
	}
}

func placesOf(s string) []int {
	var out []int
	for i := range len(s) {
		out = append(out, i)
	}
	return out
}

// P4.1, P4.2: each short text of parts that count, from each of its places.
func TestAllShort(t *testing.T) {
	parts := []string{"<", "/", ">", "!", "?", "-", "a", "B", "=", "\"", "'", " ", "\n", "1", "&lt", ";", "[CDATA[", "]", "xMp", "docTYPE", "\xC3", "\u00E9"}
	for _, many := range []int{1, 2, 3} {
		for _, s := range joined(parts, many) {
			checkSaid(t, s, placesOf(s))
		}
	}
}

// P4.1, P4.2: longer texts of the parts that count behind a beginning.
func TestAllBegun(t *testing.T) {
	for _, x := range []struct {
		begin string
		parts []string
		many  int
	}{
		{"<", []string{"<", "/", ">", "!", "?", "-", "a", "X", " "}, 4},
		{"<a", []string{"/", ">", "b", "B", "=", "\"", "'", " ", "\f"}, 5},
		{"<a b", []string{"/", ">", "b", "=", "\"", "'", " ", "&lt"}, 5},
		{"</a ", []string{"/", ">", "b", "=", "'", " "}, 4},
		{"<!--", []string{"-", "!", ">", "a", "<"}, 6},
		{"<![CDATA[", []string{"]", ">", "&lt;", "<b", "</>", "<![CDATA["}, 5},
		{"<!d", []string{"octype", "OCTYPE", ">", " ", "<b>"}, 4},
		{"x</xmP", []string{"</xMp", ">", " ", "/", "&lt;", "a", "'", "="}, 4},
	} {
		for _, s := range joined(x.parts, x.many) {
			checkSaid(t, x.begin+s, []int{0, 1})
		}
	}
}

// P4.1: All is Next, from each token's end on, up to the last one.
func TestAllIsNext(t *testing.T) {
	parts := []string{"<a b=c>", "<a", "</a>", "</>", "x&lt;", "<!--x-->", "<!doctype>", "<![CDATA[]]>", "<?", "'", " ", ">"}
	for _, s := range joined(parts, 4) {
		got, at := All(s), 0
		for i := 0; ; i++ {
			want, end := said(s, at, api.ModeData, "", false)
			if want.Kind == api.TokenEnd {
				if i != len(got) {
					t.Fatalf("All(%q): %d tokens, not %d", s, len(got), i)
				}
				break
			}
			if i >= len(got) || !alike(got[i], want) {
				t.Fatalf("All(%q): token %d is not %s", s, i, short(want))
			}
			at = end
		}
	}
	if got := All(""); len(got) != 0 {
		t.Errorf("All of nothing: %v", got)
	}
}

// written: a tag with quoted values, whose & and " are references.
func written(t api.Token) string {
	s := "<" + t.Name
	for _, a := range t.Attrs {
		s += " " + a.Name + `="` + strings.NewReplacer("&", "&amp;", `"`, "&quot;").Replace(a.Value) + `"`
	}
	if t.Closed {
		s += "/"
	}
	return s + ">"
}

// P4.3: tags, written and read again, alone and with something around.
func TestThereAndBack(t *testing.T) {
	values := append(joined([]string{"&", "\"", "'", "<", ">", "=", "/", " ", "\n", "a", "amp;", "lt", "#34;", "\xFF", "\u00E9", "\x00"}, 2), "", "/>", "-->", "\">", strings.Repeat("&\"", 500))
	names := []string{"a", "href", "=", "=b", "'", "\"", "<", "a:b", "&amp;", "\u00C4", "\xFF", "b-c", "1"}
	for i, v := range values {
		for _, closed := range []bool{false, true} {
			tag := api.Token{Kind: api.TokenStart, Name: []string{"a", "h1", "x:y", "b\u00C4=\"'<"}[i%4], Closed: closed}
			for j := range i % (len(names) + 1) {
				tag.Attrs = append(tag.Attrs, api.Attr{Name: names[(i+j)%len(names)], Value: values[(i*7+j*31)%len(values)]})
			}
			tag.Attrs = append(tag.Attrs, api.Attr{Name: "last", Value: v})
			s := written(tag)
			for _, behind := range []string{"", "x", "\">", "<b>"} {
				got, end := Next("'"+s+behind, 1, api.ModeData, "", false)
				if !alike(got, tag) || end != 1+len(s) {
					t.Fatalf("%q: %s, %d", s, short(got), end)
				}
			}
		}
	}
}

// R4: lists of answers share no memory, nor their spare room.
func TestOwnMemory(t *testing.T) {
	const s = "<a b=1 c=2 d=3><a e=4 f=5 g=6><a h><a>"
	got, want := All(s), All(s)
	for i := range got {
		_ = append(got[i].Attrs, api.Attr{Name: "x"}, api.Attr{Name: "y"})
	}
	if !reflect.DeepEqual(got, want) {
		t.Error("a list's spare room is another one's")
	}
	for j := range got[0].Attrs {
		got[0].Attrs[j] = api.Attr{}
	}
	if !reflect.DeepEqual(got[1:], want[1:]) || !reflect.DeepEqual(All(s), want) {
		t.Error("lists of answers share memory")
	}
}

// P4.1: what is long is read to its end, without nesting as deep and without going over it again and again.
func TestLong(t *testing.T) {
	const many = 200000
	for _, x := range []struct {
		part   string
		tokens int
	}{{"</>", 0}, {"<", 1}, {"<a>", many}, {"<!---->", many}, {"<!--a--!>", many}, {"<!doctype>", many}, {"x<b y='z'/>", 2 * many}, {"&lt;", 1}, {"</a >", many}, {"<?>", many}, {"</", 1}, {"<!--", 1}, {"<b '", 0}} {
		if got := All(strings.Repeat(x.part, many)); len(got) != x.tokens {
			t.Errorf("many of %q: %d tokens", x.part, len(got))
		}
	}
	empty := strings.Repeat("<![CDATA[]]>", many)
	if got, end := Next(empty+"x", 0, api.ModeData, "", true); short(got) != `text "x"` || end != len(empty)+1 {
		t.Errorf("many empty sections: %s, %d", short(got), end)
	}
	var tag strings.Builder
	for i := range many {
		tag.WriteString(" a" + strconv.Itoa(i) + "=" + strconv.Itoa(i))
	}
	if got := All("<b" + tag.String() + tag.String() + " />"); len(got) != 1 || len(got[0].Attrs) != many || !got[0].Closed {
		t.Error("many attributes")
	}
	if got, end := Next(strings.Repeat("</a", many)+"</ab>", 0, api.ModeRaw, "ab", false); len(got.Text) != 3*many || end != 3*many {
		t.Errorf("many end tags of another name: %d", end)
	}
}
