package clean

import (
	"fmt"
	"strings"
	"testing"

	"marginalia/api"
	"marginalia/build"
	"marginalia/policy"
)

// of: the policy of a text whose lines are parted by semicolons.
func of(t *testing.T, s string) api.Policy {
	t.Helper()
	p, line, e := policy.Parse(strings.ReplaceAll(s, ";", "\n"))
	if e != api.OK {
		t.Fatalf("%q: %d in line %d", s, e, line)
	}
	return p
}

// usual: a policy of a few rules; wide: one that lets much; bare: one that lets texts alone.
func usual(t *testing.T) api.Policy {
	t.Helper()
	return of(t, "deep 3;element b;element p;element pre;element a href title;element br;link href;scheme https mailto;drop form")
}

func wide(t *testing.T) api.Policy {
	t.Helper()
	return of(t, "deep 60;element a href title name;element b class;element i;element u;element em;element nobr;element font color;element p align;element div title;element span title;element pre;element h1;element h2;element ul;element li;element dl;element dd;element dt;element table summary;element button;element object title;element marquee;element form title;element img src alt;element br;element hr;element input type;element select;element option;element ruby;element rt;element rp;element image src;element keygen;element listing;element x-y;link href src;scheme https;drop blockquote")
}

func bare() api.Policy { return api.Policy{Deep: 1} }

// row: bytes, and what they are cleaned as, or the error.
type row struct {
	s, want string
	e       api.Errno
}

func ok(s, want string) row { return row{s, want, api.OK} }

func no(s string, e api.Errno) row { return row{s, "", e} }

// same: bytes that are cleaned as they are, for they are stable.
func same(s string) row { return row{s, s, api.OK} }

func cleans(t *testing.T, p api.Policy, rows ...row) {
	t.Helper()
	for _, x := range rows {
		got, e := held(t, p, x.s)
		if got != x.want || e != x.e {
			t.Errorf("Clean(%.60q): %.80q, %d; want %.80q, %d", x.s, got, e, x.want, x.e)
		}
		if Stable(p, x.s) != (e == api.OK && got == x.s) {
			t.Errorf("Stable(%.60q): %v", x.s, Stable(p, x.s))
		}
	}
}

func times(n int, s string) string { return strings.Repeat(s, n) }

// P13.1: the chapter's example, and the document's.
func TestExamples(t *testing.T) {
	cleans(t, of(t, "deep 2;element b"), ok("<b>x<script>y</script>&ltz", "<b>x&lt;z</b>"), no("<b>&#13;</b>", api.ErrRejected))
	cleans(t, of(t, "deep 3;element b;element p;element a href;link href;scheme https"),
		ok("<b onclick=x>hi</b>", "<b>hi</b>"), ok("<b>1<p>2</b>3", "<b>1</b><p><b>2</b>3</p>"), ok("<a href=\"java\tscript:x\">y", "<a>y</a>"),
		no("<p><button><p>x", api.ErrRejected), ok("<script>x</script>y<svg><a>z", "y"), same("&lt;b"))
	cleans(t, of(t, "deep 1"), ok("<b>x</b>", "x"))
}

// P13.1: no bytes, and bytes of which nothing is kept.
func TestNothing(t *testing.T) {
	for _, p := range []api.Policy{usual(t), wide(t), bare()} {
		if s, e := Clean(p, nil); s != "" || e != api.OK {
			t.Errorf("of nil: %q, %d", s, e)
		}
		if s, e := Clean(p, []byte{}); s != "" || e != api.OK {
			t.Errorf("of no bytes: %q, %d", s, e)
		}
		if !Stable(p, "") {
			t.Error("no text is not stable")
		}
		cleans(t, p, same(""), ok("\x00", ""), ok("\xEF\xBB\xBF", ""), ok("\x00\x00", ""), ok("<!---->", ""), ok("<!doctype html>", ""), ok("</>", ""), ok("<script>x</script>", ""), ok("<svg>x</svg>", ""), ok("<b", ""), ok("</i>", ""), ok("<tr>", ""), ok("<plaintext>x", ""))
	}
}

// wrongs: policies that may not be, those that are too large too.
func wrongs(t *testing.T) map[string]api.Policy {
	all := map[string]api.Policy{"nothing": {}}
	spoil := func(name string, do func(p *api.Policy)) {
		p := usual(t)
		do(&p)
		all[name] = p
	}
	many := func(n int) []string {
		var l []string
		for i := range n {
			l = append(l, fmt.Sprintf("n%d", i))
		}
		return l
	}
	spoil("deep 0", func(p *api.Policy) { p.Deep = 0 })
	spoil("deep -1", func(p *api.Policy) { p.Deep = -1 })
	spoil("deep 61", func(p *api.Policy) { p.Deep = 61 })
	spoil("a great letter", func(p *api.Policy) { p.Rules[0].Name = "B" })
	spoil("script", func(p *api.Policy) { p.Rules[0].Name = "script" })
	spoil("textarea", func(p *api.Policy) { p.Rules[0].Name = "textarea" })
	spoil("td", func(p *api.Policy) { p.Rules[0].Name = "td" })
	spoil("svg", func(p *api.Policy) { p.Rules[0].Name = "svg" })
	spoil("two rules", func(p *api.Policy) { p.Rules[0].Name = "p" })
	spoil("a rule and a drop", func(p *api.Policy) { p.Drops = words("x b") })
	spoil("onclick", func(p *api.Policy) { p.Rules[0].Attrs = words("onclick") })
	spoil("style", func(p *api.Policy) { p.Rules[0].Attrs = words("style") })
	spoil("a link twice", func(p *api.Policy) { p.Links = words("href href") })
	spoil("javascript", func(p *api.Policy) { p.Schemes = words("javascript") })
	spoil("too many attributes", func(p *api.Policy) { p.Rules[0].Attrs = many(21) })
	spoil("too many links", func(p *api.Policy) { p.Links = many(21) })
	spoil("too many schemes", func(p *api.Policy) { p.Schemes = many(21) })
	spoil("too many drops", func(p *api.Policy) { p.Drops = many(21) })
	spoil("too many rules", func(p *api.Policy) {
		for _, name := range many(36) {
			p.Rules = append(p.Rules, api.Rule{Name: name})
		}
	})
	spoil("too large, and wrong besides", func(p *api.Policy) { p.Drops, p.Deep = many(21), 0 })
	return all
}

// P13.1: a policy that may not be is told first, as ErrArg, also one that is too large, whatever bytes there are; nothing is stable for it.
func TestWrongPolicies(t *testing.T) {
	large := 0
	for name, p := range wrongs(t) {
		if policy.Check(p) == api.ErrLarge {
			large++
		}
		for _, s := range []string{"", "x", "<b>x</b>", "&#13;", "\xFF", times(61, "<div>"), times(4096, "x"), times(4097, "x"), times(4096, "\xFF"), times(1000, "<p>x"), times(100000, "<b>")} {
			if got, e := Clean(p, []byte(s)); got != "" || e != api.ErrArg {
				t.Errorf("%s: Clean(%.20q): %q, %d", name, s, got, e)
			}
			if Stable(p, s) {
				t.Errorf("%s: %.20q is stable", name, s)
			}
		}
	}
	if large < 6 {
		t.Errorf("only %d are too large", large)
	}
	// The greatest and the least that may be.
	p := bare()
	for i := range api.MaxRules {
		p.Rules = append(p.Rules, api.Rule{Name: fmt.Sprintf("e%d", i)})
	}
	cleans(t, p, same("<e39>x</e39>"), ok("<e40>x</e40>", "x"))
	cleans(t, bare(), same("x"))
}

// P13.1: just MaxInput bytes, and one more: of what came, whatever is left of it.
func TestMaxInput(t *testing.T) {
	for _, p := range []api.Policy{usual(t), bare()} {
		cleans(t, p,
			same(times(4095, "x")), same(times(4096, "x")), no(times(4097, "x"), api.ErrLarge), no(times(100000, "x"), api.ErrLarge),
			ok(times(4096, "\x00"), ""), no(times(4097, "\x00"), api.ErrLarge), ok(times(4095, "x")+"\x00", times(4095, "x")), no(times(4096, "x")+"\x00", api.ErrLarge), no("\x00"+times(4096, "x"), api.ErrLarge),
			ok("\xEF\xBB\xBF"+times(4093, "x"), times(4093, "x")), no("\xEF\xBB\xBF"+times(4094, "x"), api.ErrLarge),
			ok(times(2048, "\r\n"), times(2048, "\n")), no(times(2048, "\r\n")+"\n", api.ErrLarge), no("x"+times(2048, "\r\n"), api.ErrLarge),
			ok("<!--"+times(4089, "x")+"-->", ""), no("<!--"+times(4090, "x")+"-->", api.ErrLarge), ok("<script>"+times(4088, "x"), ""), no("<script>"+times(4089, "x"), api.ErrLarge))
	}
	// Such a tree is too deep besides.
	cleans(t, usual(t), no(times(61, "<div>")+times(4096-61*5, "x"), api.ErrDeep), no(times(61, "<div>")+times(4097-61*5, "x"), api.ErrLarge))
}

// P13.1: as a text what came may have more bytes than it had.
func TestTextTooLarge(t *testing.T) {
	p := usual(t)
	cleans(t, p,
		ok(times(1365, "\xFF"), times(1365, "\uFFFD")), ok(times(1365, "\xFF")+"x", times(1365, "\uFFFD")+"x"), no(times(1365, "\xFF")+"xy", api.ErrLarge), no(times(1366, "\xFF"), api.ErrLarge), no(times(4096, "\x80"), api.ErrLarge),
		// Also where nothing of it would be kept.
		ok("<!--"+times(1362, "\xFF")+"-->", ""), no("<!--"+times(1364, "\xFF")+"-->", api.ErrLarge), no("<script>"+times(1400, "\xFF"), api.ErrLarge),
		// Cut off, four bytes are three.
		ok(times(1365, "\xF0\x9F\x98"), times(1365, "\uFFFD")))
}

// P13.1: bytes whose tree is too deep, or too great.
func TestTreeTooGreat(t *testing.T) {
	for _, p := range []api.Policy{usual(t), bare()} {
		cleans(t, p,
			ok(times(60, "<div>")+"x", "x"), no(times(61, "<div>"), api.ErrDeep), no(times(61, "<div>")+"x", api.ErrDeep), no("x"+times(61, "<svg>"), api.ErrDeep),
			ok(times(60, "<div>")+"</div><div>x", "x"), no(times(60, "<div>")+"<br>", api.ErrDeep), no(times(60, "<div>")+"<b>x", api.ErrDeep))
	}
	// 1999 nodes, and the root; 2000.
	cleans(t, bare(), ok(times(999, "<p>x"), times(999, "x")), ok(times(999, "<p>x")+"<p>", times(999, "x")), no(times(999, "<p>x")+"<p>x", api.ErrLarge), no(times(1000, "<p>x"), api.ErrLarge))
	// The first of the two errors in what is read.
	renewed := "<p><b><i><u>" + times(400, "<p>x")
	cleans(t, bare(), no(times(61, "<div>")+renewed, api.ErrDeep), no(renewed+times(61, "<div>"), api.ErrLarge), no(times(61, "<div>"), api.ErrDeep), no(renewed, api.ErrLarge))
	if l, e := build.Fragment(times(999, "<p>x") + "<p>"); e != api.OK || build.Many(l) != 1999 {
		t.Errorf("%d nodes, %d", build.Many(l), e)
	}
}

// P13.1: what is kept is written as just MaxInput bytes, and as more.
func TestWrittenTooLarge(t *testing.T) {
	p := usual(t)
	link := func(n int, value string) string { return "<a title='" + times(n, value) + "'>" }
	cleans(t, p,
		ok(times(819, "&")+"x", times(819, "&amp;")+"x"), no(times(819, "&")+"xy", api.ErrLarge), no(times(820, "&"), api.ErrLarge), no(times(4096, "&"), api.ErrLarge),
		ok(times(1024, "<"), times(1024, "&lt;")), no(times(1025, "<"), api.ErrLarge), no(times(1024, ">")+"x", api.ErrLarge), same(times(1024, "&gt;")), ok(times(682, "\u00A0")+"wxyz", times(682, "&nbsp;")+"wxyz"), no(times(682, "\u00A0")+"vwxyz", api.ErrLarge),
		ok("<b>"+times(4089, "x"), "<b>"+times(4089, "x")+"</b>"), no("<b>"+times(4090, "x"), api.ErrLarge), no("<b>"+times(4093, "x"), api.ErrLarge), same("<b>"+times(4089, "x")+"</b>"),
		ok("<i>"+times(4093, "x"), times(4093, "x")), no("<i>"+times(4094, "x"), api.ErrLarge),
		ok(link(680, "\""), `<a title="`+times(680, "&quot;")+`"></a>`), no(link(681, "\""), api.ErrLarge), ok(link(4080, "x"), `<a title="`+times(4080, "x")+`"></a>`), no(link(4081, "x"), api.ErrLarge),
		ok(times(512, "<p>x"), times(512, "<p>x</p>")), no(times(513, "<p>x"), api.ErrLarge), ok(times(585, "<p>"), times(585, "<p></p>")), no(times(586, "<p>"), api.ErrLarge),
		// Formatting that is made anew is written anew.
		no("<p><a title="+times(1200, "x")+">1<p>2<p>3<p>4", api.ErrLarge), ok("<p><a title="+times(1200, "x")+">1<p>2<p>3", times(1, "<p><a title=\""+times(1200, "x")+"\">1</a></p><p><a title=\""+times(1200, "x")+"\">2</a></p><p><a title=\""+times(1200, "x")+"\">3</a></p>")))
	// Too large is told ahead of what would be read otherwise.
	cleans(t, p, no("&#13;", api.ErrRejected), no("&#13;"+times(820, "&"), api.ErrLarge), no("<p><button><p>x"+times(820, "&"), api.ErrLarge), no("&#xFEFF;"+times(818, "&")+"wxy", api.ErrRejected), no("&#xFEFF;"+times(818, "&")+"wxyz", api.ErrLarge))
}

// P13.1: bytes that are no right text.
func TestNotRight(t *testing.T) {
	cleans(t, usual(t),
		ok("\xFF", "\uFFFD"), ok("a\xE2\x82b", "a\uFFFDb"), ok("\xED\xA0\x80", "\uFFFD\uFFFD\uFFFD"), ok("<b>\xC3</b>", "<b>\uFFFD</b>"), same("\uFFFD"), same("\u20AC\U0001F600"),
		ok("<a title=\xFF>x", "<a title=\"\uFFFD\">x</a>"), ok("<a href='https:\xFF'>x", "<a href=\"https:\uFFFD\">x</a>"), ok("<b\xFF>x", "x"), ok("<\xFFb>x", "&lt;\uFFFDb&gt;x"), ok("&\xFFlt;", "&amp;\uFFFDlt;"), ok("<\xE2b>", "&lt;\uFFFDb&gt;"), ok("&a\xFFmp;", "&amp;a\uFFFDmp;"),
		ok("\xFE\xFFx", "\uFFFD\uFFFDx"), ok("\xC2", "\uFFFD"), ok("\xC2\xC2\xA0\xA0", "\uFFFD&nbsp;\uFFFD"), ok("<script>\xFF</script>x", "x"))
}

// P13.1: the mark ahead goes; where it would come to stand ahead of what is written, that is read without it.
func TestMark(t *testing.T) {
	const mark = "\xEF\xBB\xBF"
	cleans(t, usual(t),
		ok(mark+"x", "x"), ok(mark+"<b>x</b>", "<b>x</b>"), no(mark+mark, api.ErrRejected), no(mark+mark+"x", api.ErrRejected), same("x"+mark), ok(mark+"x"+mark, "x"+mark), same("<b>"+mark+"</b>"), same("<b></b>"+mark), same(`<a title="`+mark+`"></a>`),
		no("&#xFEFF;", api.ErrRejected), no("&#xFEFF;x", api.ErrRejected), no("&#65279;x", api.ErrRejected), ok("x&#xFEFF;", "x"+mark), ok("<b>&#xFEFF;", "<b>"+mark+"</b>"), ok("<a title='&#xFEFF;'>x", `<a title="`+mark+`">x</a>`),
		// It comes to stand ahead where all ahead of it goes.
		no("<i>"+mark, api.ErrRejected), no("<i>&#xFEFF;</i>", api.ErrRejected), no("\x00"+mark+"x", api.ErrRejected), no("<!--x-->"+mark+"x", api.ErrRejected), no("<script>x</script>"+mark, api.ErrRejected), no("</>"+mark+"<b>x", api.ErrRejected), no("<form>x</form>&#xFEFF;", api.ErrRejected), ok("<form>"+mark+"</form>x", "x"), no("<table><tr>"+mark, api.ErrRejected),
		ok("\xEF\xBB", "\uFFFD"), ok("\xEF\xBB\xFF", "\uFFFD\uFFFD"), ok("\xEF\xBB"+mark, "\uFFFD"+mark), ok(mark+"\xBF", "\uFFFD"))
	for _, s := range []string{mark, mark + "x", mark + mark, "\x00", "x\x00", "x\r", "\r\n", "\xFF", "<b>\r</b>", "<b>\xFF</b>", mark + "<b>x</b>"} {
		if Stable(usual(t), s) {
			t.Errorf("%q is stable", s)
		}
	}
}

// P13.1: carriage returns and noughts, written out and as references.
func TestReturnsAndNoughts(t *testing.T) {
	cleans(t, usual(t),
		ok("a\r\nb\rc\n\rd", "a\nb\nc\n\nd"), ok("\r", "\n"), ok("\r\n", "\n"), same("\n"), ok("<b\r\n>x</b\r>", "<b>x</b>"), ok("<a title='x\r\ny\rz'>", "<a title=\"x\ny\nz\"></a>"), ok("<a\rtitle=x\r\nhref=y>", `<a title="x" href="y"></a>`),
		no("&#13;", api.ErrRejected), no("&#xD;", api.ErrRejected), no("&#x0d", api.ErrRejected), no("x&#13;y", api.ErrRejected), no("&#13;\n", api.ErrRejected), no("&#13&#10", api.ErrRejected), no("<b>&#13;</b>", api.ErrRejected), no("<a title='&#13;'>x", api.ErrRejected), no("<a href='https:&#13;x'>y", api.ErrRejected), no("<i>&#13;</i>", api.ErrRejected),
		ok("&#10;", "\n"), ok("&NewLine;x&Tab;", "\nx\t"), ok("&#12;", "\x0C"), ok("&#1;", "\x01"), same("\x01\x0C\x7F"), ok("&#x7f;", "\x7F"), ok("&#x85;", "\u2026"),
		// What goes with its element, or its attribute, does no harm.
		ok("<i title='&#13;'>x", "x"), ok("<b title='&#13;'>x", "<b>x</b>"), ok("<script>&#13;</script>x", "x"), ok("<form>&#13;</form>x", "x"), ok("<!--&#13;-->x", "x"), ok("<svg>&#13;</svg>x", "x"), ok("<a href='javascript:&#13;'>x", "<a>x</a>"),
		ok("a\x00b", "ab"), ok("<\x00b>x", "<b>x</b>"), ok("&l\x00t;", "&lt;"), ok("<b>\x00</b>", "<b></b>"), ok("a\r\x00\nb", "a\n\nb"), ok("<a title='\x00x\x00'>", `<a title="x"></a>`), ok("<scr\x00ipt>x</script>y", "y"), ok("&#0;", "\uFFFD"), ok("<b>&#x0</b>", "<b>\uFFFD</b>"), ok("<a title='&#0;'>", "<a title=\"\uFFFD\"></a>"), ok("&#xD800;&#x110000;", "\uFFFD\uFFFD"))
}

// P13.1: a line feed that is passed over when it is read again, so that one is lost.
func TestFirstLineFeed(t *testing.T) {
	cleans(t, usual(t),
		ok("<pre>\nx", "<pre>x</pre>"), no("<pre>\n\nx", api.ErrRejected), ok("<pre>\r\nx", "<pre>x</pre>"), no("<pre>\r\rx", api.ErrRejected), same("<pre>x\n</pre>"), ok("<pre>\n", "<pre></pre>"), no("<pre>\n\n", api.ErrRejected), ok("<pre>&#10;x", "<pre>x</pre>"), no("<pre>\n&#10;x", api.ErrRejected),
		same("<pre><b>\nx</b></pre>"), no("<pre><i>\nx</i></pre>", api.ErrRejected), no("<pre><!---->\nx", api.ErrRejected), same("<pre> \nx</pre>"), ok("<pre>\n\x00x", "<pre>x</pre>"), ok("<listing>\n\nx", "\nx"), ok("<textarea>\n\nx</textarea>", "\nx"), no("<pre><listing>\n\nx", api.ErrRejected), ok("<pre><form>x</form>y", "<pre>y</pre>"), no("<pre><form>x</form>\ny", api.ErrRejected))
}

// P13.1: elements that are read at another place than they stand; and such as come to stand where they would be read at another.
func TestMoved(t *testing.T) {
	cleans(t, usual(t),
		ok("<b>1<p>2</b>3", "<b>1</b><p><b>2</b>3</p>"), ok("<a>1<p>2</a>3", "<a>1</a><p><a>2</a>3</p>"), ok("<a>1<a>2", "<a>1</a><a>2</a>"), ok("<p>1<p>2", "<p>1</p><p>2</p>"), ok("<p><a><div><p>x", "<p><a></a></p><p><a>x</a></p>"), ok("</p>", "<p></p>"), ok("</br>", "<br>"), ok("<b><p>1</p></b>", "<b><p>1</p></b>"),
		ok("1<table>2<tr><td>3<b>4</table>5", "123<b>4</b>5"), ok("<table><b>1<tr><td>2</table>3", "<b>1</b>2<b>3</b>"), ok("<table><tr><p>1<td>2", "<p>1</p>2"), ok("<svg><p>1", "<p>1</p>"), ok("<p>1<pre>2", "<p>1</p><pre>2</pre>"),
		// A p within a p is read behind it, an a within an a too.
		no("<p><button><p>x", api.ErrRejected), no("<p>1<object><p>2</p></object>3</p>", api.ErrRejected), no("<p><button><pre>x", api.ErrRejected), no("<a><object><a>x", api.ErrRejected), no("<a>1<table><td><a>2", api.ErrRejected), ok("<button><p>x", "<p>x</p>"), ok("<p>1<button>2", "<p>12</p>"), ok("<a>1<object>2", "<a>12</a>"), ok("<p><table><td><p>x", "<p></p><p>x</p>"), ok("<table><td><p>x", "<p>x</p>"),
		// What goes with its element can't be read at another place.
		ok("<p>1<form><button><p>2</form>", "<p>1</p>"))
	cleans(t, wide(t),
		same("<p><button><p>x</p></button></p>"), same("<p><object><p>x</p></object></p>"), same("<a><object><a>x</a></object></a>"), same("<table></table>"), ok("<table>x", "x<table></table>"), no("<table><td>x", api.ErrRejected), no("<table><caption>x", api.ErrRejected), ok("<table><td>", "<table></table>"), same("<table> </table>"), ok("<table><tr> ", "<table> </table>"), ok("<table><tr> <td></table>", "<table> </table>"), no("<table><td><table>", api.ErrRejected), same(`<table><input type="hidden"></table>`), no("<table><td><input type=x>", api.ErrRejected), same("<table><form></form></table>"), no("<table><td><form>x", api.ErrRejected),
		no("<ul><li>1<blink><ul><li>2</ul></blink><table><td><li>3", api.ErrRejected), ok("<li>1<li>2", "<li>1</li><li>2</li>"), no("<li><table><caption><li>x", api.ErrRejected), no("<h1><table><td><h2>", api.ErrRejected), no("<option><table><td><option>x", api.ErrRejected), ok("<h1>1<h2>2", "<h1>1</h1><h2>2</h2>"), ok("<image src=x>y", `<img src="x">y`), ok("<keygen>x", "<keygen></keygen>x"), no("<form><table><td><p><table><td><form>", api.ErrRejected))
}

// P13.1: what is kept may be read with an error; that too is ErrRejected.
func TestReadWithError(t *testing.T) {
	p := api.Policy{Deep: 60, Rules: []api.Rule{{Name: "p"}}}
	first, last := "<p>", "</p>"
	for _, name := range words("b big code em font i s small strike strong tt u") {
		p.Rules = append(p.Rules, api.Rule{Name: name})
		first, last = first+times(3, "<"+name+">"), times(3, "</"+name+">")+last
	}
	// Where the button goes, the p within it ends the one around, and each renews all formatting.
	s := func(n int) string { return first + "<button>" + times(n, "<p>x") }
	written := func(n int) string { return first + times(n, "<p>x</p>") + last }
	for n, want := range map[int]api.Errno{1: api.OK, 20: api.OK, 60: api.ErrLarge, 400: api.ErrLarge} {
		if _, e := build.Fragment(written(n)); e != want || len(written(n)) > api.MaxInput {
			t.Errorf("%d: what is written has %d bytes and is read with %d", n, len(written(n)), e)
		}
		cleans(t, p, no(s(n), api.ErrRejected))
	}
	if n := (api.MaxInput-len(written(0)))/8 + 1; len(s(n)) > api.MaxInput {
		t.Errorf("%d bytes", len(s(n)))
	} else {
		cleans(t, p, no(s(n-1), api.ErrRejected), no(s(n), api.ErrLarge))
	}
}

// P13.1, P13.3: texts that are stable.
func TestStable(t *testing.T) {
	cleans(t, usual(t),
		same("x"), same(" "), same("\n\t x"), same("<b></b>"), same("<b>x</b>"), same("x<b>y</b>z<b>w</b>"), same("<b><b><b>x</b></b></b>"), same("&amp;&lt;&gt;&nbsp;"), same("\"'"), same("&amp;lt;"), same("a<br>b<br>"), same("<p>1</p><p>2</p>"), same("<p>1<b>2</b>3<a>4</a></p>"),
		same(`<a href="https:x">y</a>`), same(`<a href="" title="">y</a>`), same(`<a title="&quot;&amp;&lt;&gt;&nbsp;'">y</a>`), same(`<a title="javascript:x">y</a>`), same(`<a href="/x:y"></a>`), same(`<a href="mailto:x?a&amp;b">y</a>`), same("<pre>x\n\ny</pre>"), same("<b><p>x</p></b>"), same("<a><b></b><br></a>"), same("\u00E4\u20AC\uFFFD"))
	cleans(t, bare(), same("x"), same("&lt;b&gt;"), same("&amp;"), ok("<b>x</b>", "x"), ok("<p>", ""))
	// One deep more than is let.
	cleans(t, usual(t), ok("<b><b><b><b>x</b></b></b></b>", "<b><b><b>x</b></b></b>"))
	cleans(t, wide(t), same(times(60, "<div>")+"x"+times(60, "</div>")), same(times(100, "<div>x</div>")))
	// What is stable for one policy is not so for another.
	for _, s := range []string{"<b>x</b>", "<p></p>", `<a href="x"></a>`, "<br>"} {
		if !Stable(usual(t), s) || Stable(bare(), s) || Stable(of(t, "deep 60;element i;drop p"), s) {
			t.Errorf("%q: %v, %v", s, Stable(usual(t), s), Stable(bare(), s))
		}
	}
}

// P13.1, P13.3: what is read as a tree that is allowed, but is written otherwise, is not stable, and loses nothing.
func TestWrittenOtherwise(t *testing.T) {
	cleans(t, usual(t),
		ok("<b>x", "<b>x</b>"), ok("<B>x</B>", "<b>x</b>"), ok("<b >x</b >", "<b>x</b>"), ok("<b/>x</b>", "<b>x</b>"), ok("a>b", "a&gt;b"), ok("a<", "a&lt;"), ok("a < b", "a &lt; b"), ok("&", "&amp;"), ok("&lt", "&lt;"), ok("&#60;", "&lt;"), ok("&AMP;", "&amp;"), ok("&quot;", "\""), ok("&apos;", "'"), ok("\u00A0", "&nbsp;"), ok("&#xA0;", "&nbsp;"), ok("&copy;", "\u00A9"), ok("&xyz;", "&amp;xyz;"),
		ok("<a href=x>y</a>", `<a href="x">y</a>`), ok("<a href='x'>y</a>", `<a href="x">y</a>`), ok("<a HREF=\"x\">y</a>", `<a href="x">y</a>`), ok("<a href>y</a>", `<a href="">y</a>`), ok("<a  href=\"x\">y</a>", `<a href="x">y</a>`), ok("<a href = \"x\">y</a>", `<a href="x">y</a>`), ok(`<a href="x" href="y"></a>`, `<a href="x"></a>`), ok(`<a href="x&y"></a>`, `<a href="x&amp;y"></a>`), ok(`<a title="<>"></a>`, `<a title="&lt;&gt;"></a>`), ok(`<a title='"'></a>`, `<a title="&quot;"></a>`),
		ok("<br/>", "<br>"), ok("<br></br>", "<br><br>"), ok("</p>", "<p></p>"), ok("<p>1<p>2", "<p>1</p><p>2</p>"), ok("x</b>", "x"), ok("x</>", "x"), ok("<!doctype>x", "x"), ok("x<b", "x"), ok("<b>x</b x=y>", "<b>x</b>"), ok("x<tr>", "x"), ok("<body>x", "x"), ok("<b></b>x</i>", "<b></b>x"), ok("x\r", "x\n"), ok("<pre>\nx</pre>", "<pre>x</pre>"))
	for _, s := range []string{"<i>x</i>", "<script>x</script>", "x<!--y-->", "<svg></svg>", "<form></form>", `<b title="x">y</b>`, `<a href="http:x"></a>`, `<a onclick="x"></a>`, "<b><b><b><b></b></b></b></b>", "<div></div>", "<plaintext>x</plaintext>"} {
		if Stable(usual(t), s) {
			t.Errorf("%q is not allowed, and is stable", s)
		}
	}
	// Too large, too deep, too great.
	for _, s := range []string{times(4097, "x"), times(100000, "<b></b>"), times(61, "<div>") + times(61, "</div>"), times(1000, "&amp;")} {
		if Stable(wide(t), s) {
			t.Errorf("%.40q is stable", s)
		}
	}
}
