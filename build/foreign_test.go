package build

import (
	"strings"
	"testing"
)

const breakNames = "b big blockquote body br center code dd div dl dt em embed h1 h2 h3 h4 h5 h6 head hr i img li listing menu meta nobr ol p pre ruby s small span strike strong sub sup table tt u ul var"

// P8.1: svg and math, closed and not, and what is within them.
func TestForeign(t *testing.T) {
	within(t, "svg math",
		[2]string{"<NAME>a<g k=v>b</g>c</NAME>d", "NAME:NAME('a'NAME:g[k=v]('b')'c')'d'"},
		[2]string{"<NAME/>a", "NAME:NAME()'a'"},
		[2]string{"<NAME k=v / >a", "NAME:NAME[k=v]('a')"},
		[2]string{"<NAME><g/>a<g />b", "NAME:NAME(NAME:g()'a'NAME:g()'b')"},
		[2]string{"<NAME><svg><math>a", "NAME:NAME(NAME:svg(NAME:math('a')))"},
		[2]string{"<NAME>a<!--b-->c", "NAME:NAME('a'!b!'c')"},
		[2]string{"<NAME> <a>b<td>c<form>d<caption><image>e", "NAME:NAME(' 'NAME:a('b'NAME:td('c'NAME:form('d'NAME:caption(NAME:image('e'))))))"},
		[2]string{"<NAME><textarea>a<b>", "NAME:NAME(NAME:textarea('a'))b()"},
		[2]string{"<NAME><g>a</NAME>b", "NAME:NAME(NAME:g('a'))'b'"},
		[2]string{"<NAME><g>a</h>b</x>c", "NAME:NAME(NAME:g('abc'))"},
		[2]string{"<NAME><g><g>a</g>b</g>c", "NAME:NAME(NAME:g(NAME:g('a')'b')'c')"},
		// No formatting is made anew within, and no mark is left.
		[2]string{"<p><b>1</p><i><NAME></i></p>2", "p(b('1'))b(i(NAME:NAME())p()'2')"},
		[2]string{"<NAME><a>1</NAME>2", "NAME:NAME(NAME:a('1'))'2'"},
	)
}

// P8.1: the start tags that break out.
func TestBreaks(t *testing.T) {
	for _, w := range strings.Fields(breakNames) {
		for _, s := range []string{"svg", "math"} {
			// What stands behind is read as if the svg were closed ahead of it.
			tag := "<" + w + " k=v>x"
			reads(t, [2]string{"<" + s + "><g>" + tag, s + ":" + s + "(" + s + ":g())" + read(t, tag)})
			reads(t, [2]string{"<div><" + s + ">" + tag, "div(" + s + ":" + s + "()" + read(t, tag) + ")"})
		}
	}
	within(t, "a abbr button caption form g input option script select style td textarea tr x",
		[2]string{"<svg><g><NAME>x", "svg:svg(svg:g(svg:NAME('x')))"})
	reads(t,
		// font, with and without its three attributes.
		[2]string{"<svg><font>x", "svg:svg(svg:font('x'))"},
		[2]string{"<svg><font k=v>x", "svg:svg(svg:font[k=v]('x'))"},
		[2]string{"<svg><font color>x", "svg:svg()font[color=]('x')"},
		[2]string{"<svg><font k=v face=y>x", "svg:svg()font[k=v face=y]('x')"},
		[2]string{"<svg><font SIZE=1>x", "svg:svg()font[size=1]('x')"},
		[2]string{"<svg><g color=y>x", "svg:svg(svg:g[color=y]('x'))"},
		[2]string{"<svg><font>x</font size=1>y", "svg:svg(svg:font('x')'y')"},
		// Up to an integration point, or to one of SpaceHtml.
		[2]string{"<svg><desc><svg><g><p>x", "svg:svg(svg:desc(svg:svg(svg:g())p('x')))"},
		[2]string{"<svg><g><desc><p>x", "svg:svg(svg:g(svg:desc(p('x'))))"},
		[2]string{"<math><mi><svg><g><b>x", "math:math(math:mi(svg:svg(svg:g())b('x')))"},
		[2]string{"<svg><desc><i><math><mo><math><g><b>x", "svg:svg(svg:desc(i(math:math(math:mo(math:math(math:g())b('x'))))))"},
		// The end tags br and p.
		[2]string{"<svg><g></br>x", "svg:svg(svg:g())br()'x'"},
		[2]string{"<svg><g></p>x", "svg:svg(svg:g())p()'x'"},
		[2]string{"<p>a<svg><g></p>x", "p('a'svg:svg(svg:g()))'x'"},
		[2]string{"<svg><p></svg></p>x", "svg:svg()p()'x'"},
		[2]string{"<svg><desc></p>x", "svg:svg(svg:desc(p()'x'))"},
		[2]string{"<svg><desc></br>x", "svg:svg(svg:desc(br()'x'))"},
		[2]string{"<svg><desc><svg></br>x", "svg:svg(svg:desc(svg:svg()br()'x'))"},
		// By the rules that are set.
		[2]string{"<table><svg><b>x", "svg:svg()b('x')table()"},
		[2]string{"<table><tr><td><svg><g><p>x<td>y", "table(tbody(tr(td(svg:svg(svg:g())p('x'))td('y'))))"},
		[2]string{"<table><svg><table>x", "svg:svg()table()'x'table()"},
	)
}

// read: how a text is read, in short.
func read(t *testing.T, s string) string {
	t.Helper()
	l, e := Fragment(s)
	if e != 0 {
		t.Errorf("Fragment(%q): %d", s, e)
	}
	return short(l)
}

// P8.1: integration points.
func TestPoints(t *testing.T) {
	within(t, "foreignobject desc title",
		[2]string{"<svg><NAME>a<p>b<b>c", "svg:svg(svg:NAME('a'p('b'b('c'))))"},
		[2]string{"<svg><NAME>a</NAME>b", "svg:svg(svg:NAME('a')'b')"},
		[2]string{"<svg><NAME>a</svg>b", "svg:svg(svg:NAME('a'))'b'"},
		[2]string{"<svg><NAME><p>a</NAME>b</svg>c", "svg:svg(svg:NAME(p('abc')))"},
		[2]string{"<svg><NAME><span>a</NAME>b</svg>c", "svg:svg(svg:NAME(span('abc')))"},
		[2]string{"<svg><NAME><p>a</p></NAME>b<g>c", "svg:svg(svg:NAME(p('a'))'b'svg:g('c'))"},
		[2]string{"<svg><NAME><g>a</g>b", "svg:svg(svg:NAME(g('a')'b'))"},
		[2]string{"<svg><NAME><svg>a</NAME>b", "svg:svg(svg:NAME(svg:svg('a'))'b')"},
		[2]string{"<svg><NAME><math>a</math>b", "svg:svg(svg:NAME(math:math('a')'b'))"},
		[2]string{"<svg><NAME/><p>a", "svg:svg(svg:NAME())p('a')"},
		[2]string{"<svg><NAME><!--c--></x>a", "svg:svg(svg:NAME(!c!'a'))"},
		// No integration point in the other language.
		[2]string{"<math><NAME><p>a", "math:math(math:NAME())p('a')"},
		// Formatting is made anew in it, but none of that ahead of it is ended.
		[2]string{"<p><b>1</p><svg><NAME>2</svg>3", "p(b('1'))b(svg:svg(svg:NAME('2'))'3')"},
		[2]string{"<svg><NAME><p><b>1</p>2", "svg:svg(svg:NAME(p(b('1'))b('2')))"},
		[2]string{"<b><svg><NAME>1</b>2", "b(svg:svg(svg:NAME('12')))"},
	)
	within(t, "mi mo mn ms mtext",
		[2]string{"<math><NAME>a<p>b<b>c", "math:math(math:NAME('a'p('b'b('c'))))"},
		[2]string{"<math><NAME>a</NAME>b", "math:math(math:NAME('a')'b')"},
		[2]string{"<math><NAME><b>a</NAME>b", "math:math(math:NAME(b('ab')))"},
		[2]string{"<math><NAME><svg>a</NAME>b", "math:math(math:NAME(svg:svg('a'))'b')"},
		[2]string{"<svg><NAME><p>a", "svg:svg(svg:NAME())p('a')"},
		[2]string{"<math><NAME><g>a", "math:math(math:NAME(g('a')))"},
	)
}

// P8.1: an end tag that meets one of SpaceHtml is taken by the rules that are set.
func TestForeignEndTags(t *testing.T) {
	reads(t,
		[2]string{"<div><svg><g>a</div>b", "div(svg:svg(svg:g('a')))'b'"},
		[2]string{"<b><svg>a</b>b", "b(svg:svg('a'))'b'"},
		[2]string{"<b><p><svg>a</b>b", "b()p(b(svg:svg('a'))'b')"},
		[2]string{"<span><svg><g>a</span>b", "span(svg:svg(svg:g('a')))'b'"},
		[2]string{"<div><span><svg>a</x>b", "div(span(svg:svg('ab')))"},
		[2]string{"<g><svg><h>a</g>b", "g(svg:svg(svg:h('a')))'b'"},
		[2]string{"<svg><g><desc><i><svg>a</g>b", "svg:svg(svg:g(svg:desc(i(svg:svg('ab')))))"},
		[2]string{"<li><svg>a</li>b", "li(svg:svg('a'))'b'"},
		[2]string{"<h1><svg>a</h2>b", "h1(svg:svg('a'))'b'"},
		[2]string{"<object><svg>a</object>b", "object(svg:svg('a'))'b'"},
		[2]string{"<svg>a</body>b</html>c", "svg:svg('abc')"},
		// By the rules of a table.
		[2]string{"<table><tr><td><svg><g>a</td>b", "'b'table(tbody(tr(td(svg:svg(svg:g('a'))))))"},
		[2]string{"<table><tr><td><svg><desc>a</tr>b", "'b'table(tbody(tr(td(svg:svg(svg:desc('a'))))))"},
		[2]string{"<table><tr><td><svg>a</table>b", "table(tbody(tr(td(svg:svg('a')))))'b'"},
		[2]string{"<table><svg>a</table>b", "svg:svg('a')table()'b'"},
		[2]string{"<table><caption><svg>a</caption>b", "'b'table(caption(svg:svg('a')))"},
		// One of that name that is nearer is met first.
		[2]string{"<table><td><svg><td>a</td>b</td>c", "'c'table(tbody(tr(td(svg:svg(svg:td('a')'b')))))"},
		[2]string{"<div><svg><td>a</td>b", "div(svg:svg(svg:td('a')'b'))"},
		// What is not of SpaceHtml is none of a table's.
		[2]string{"<svg><td><desc><table></table><p>a", "svg:svg(svg:td(svg:desc(table()p('a'))))"},
		[2]string{"<svg><tr><desc><table></table><td>a", "svg:svg(svg:tr(svg:desc(table()'a')))"},
	)
}
