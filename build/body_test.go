package build

import (
	"strings"
	"testing"
)

// within: each of the words in the place of NAME, in texts and in what they are read as.
func within(t *testing.T, words string, rows ...[2]string) {
	t.Helper()
	for _, w := range strings.Fields(words) {
		for _, x := range rows {
			reads(t, [2]string{strings.ReplaceAll(x[0], "NAME", w), strings.ReplaceAll(x[1], "NAME", w)})
		}
	}
}

const (
	skipNames   = "body frame frameset head html caption col colgroup tbody td tfoot th thead tr"
	blockNames  = "address article aside blockquote center details dialog dir div dl fieldset figcaption figure footer header hgroup main menu nav ol p search section summary ul"
	formatNames = "b big code em font i s small strike strong tt u"
)

// P8.1: the chapter's examples.
func TestExamples(t *testing.T) {
	reads(t,
		[2]string{"a<b>c<i>d</b>e", "'a'b('c'i('d'))i('e')"},
		[2]string{"<b>1<p>2</b>3", "b('1')p(b('2')'3')"},
		[2]string{"<table>x<tr><td>y", "'x'table(tbody(tr(td('y'))))"},
		[2]string{"<svg><a><p>x", "svg:svg(svg:a())p('x')"},
		[2]string{"", ""},
	)
}

// P8.1: each row of Body's start tags: is a p closed ahead of it, is formatting made anew ahead of it, what is it in then.
func TestStartTags(t *testing.T) {
	within(t, skipNames,
		[2]string{"<p>1<NAME k=v>2", "p('12')"},
		[2]string{"<p><b>1</p><NAME>2", "p(b('1'))b('2')"},
	)
	within(t, "base basefont bgsound link meta param source track",
		[2]string{"<p>1<NAME k=v>2", "p('1'NAME[k=v]()'2')"},
		[2]string{"<p><b>1</p><NAME>2", "p(b('1'))NAME()b('2')"},
	)
	within(t, "title textarea style script noframes iframe noembed",
		[2]string{"<p>1<NAME k=v>2</p></NAME>3", "p('1'NAME[k=v]('2</p>')'3')"},
		[2]string{"<p><b>1</p><NAME>2</NAME>3", "p(b('1'))NAME('2')b('3')"},
	)
	reads(t,
		[2]string{"<p>1<xmp k=v>2</p></xmp>3", "p('1')xmp[k=v]('2</p>')'3'"},
		[2]string{"<p><b>1</p><xmp>2</xmp>3", "p(b('1'))b(xmp('2')'3')"},
		[2]string{"<p>1<plaintext k=v>2</plaintext>", "p('1')plaintext[k=v]('2</plaintext>')"},
		[2]string{"<p><b>1</p><plaintext>2", "p(b('1'))plaintext(b('2'))"},
	)
	within(t, blockNames+" h1 h2 h3 h4 h5 h6 pre listing form li dd dt",
		[2]string{"<p>1<NAME k=v>2", "p('1')NAME[k=v]('2')"},
		[2]string{"<p><b>1</p><NAME>2", "p(b('1'))NAME(b('2'))"},
	)
	within(t, formatNames+" a nobr button option optgroup ruby span x-y noscript select template applet marquee object",
		[2]string{"<p>1<NAME k=v>2", "p('1'NAME[k=v]('2'))"},
		[2]string{"<p><u k=u>1</p><NAME>2", "p(u[k=u]('1'))u[k=u](NAME('2'))"},
	)
	within(t, "rb rtc rp rt",
		[2]string{"<p>1<NAME k=v>2", "p('1'NAME[k=v]('2'))"},
		[2]string{"<p><b>1</p><NAME>2", "p(b('1'))NAME(b('2'))"},
	)
	reads(t,
		[2]string{"<p>1<table k=v>", "p('1')table[k=v]()"},
		[2]string{"<p><b>1</p><table><td>2", "p(b('1'))table(tbody(tr(td('2'))))"},
		[2]string{"<p>1<hr k=v>2", "p('1')hr[k=v]()'2'"},
		[2]string{"<p><b>1</p><hr>2", "p(b('1'))hr()b('2')"},
		[2]string{"<p>1<image k=v>2", "p('1'img[k=v]()'2')"},
		[2]string{"<p><b>1</p><image>2", "p(b('1'))b(img()'2')"},
	)
	within(t, "area br embed img input keygen wbr",
		[2]string{"<p>1<NAME k=v>2", "p('1'NAME[k=v]()'2')"},
		[2]string{"<p><b>1</p><NAME>2", "p(b('1'))b(NAME()'2')"},
	)
	within(t, "svg math",
		[2]string{"<p>1<NAME k=v>2", "p('1'NAME:NAME[k=v]('2'))"},
		[2]string{"<p><b>1</p><NAME>2", "p(b('1'))b(NAME:NAME('2'))"},
		[2]string{"<p><b>1</p><NAME/>2", "p(b('1'))b(NAME:NAME()'2')"},
	)
}

// P8.1: which start tags leave a mark, which a marker.
func TestMarksOfStartTags(t *testing.T) {
	within(t, formatNames+" a nobr", [2]string{"<p><NAME k=v>1</p>2", "p(NAME[k=v]('1'))NAME[k=v]('2')"})
	within(t, "span button ruby option select", [2]string{"<div><NAME>1</div>2", "div(NAME('1'))'2'"})
	within(t, "applet marquee object",
		[2]string{"<p><b>1</p><NAME>2<p>3</NAME>4", "p(b('1'))b(NAME('2'p('3'))'4')"},
		[2]string{"<p><NAME><b>1</p>2", "p(NAME(b('1'p()'2')))"},
		[2]string{"<NAME><p><i>1</p>2</NAME>3", "NAME(p(i('1'))i('2'))'3'"},
	)
	reads(t,
		// Of four that are alike the first one is made anew no more.
		[2]string{"<p><b><b><b><b>1<p>2", "p(b(b(b(b('1')))))p(b(b(b('2'))))"},
		[2]string{"<p><b><b k=v><b><b>1<p>2", "p(b(b[k=v](b(b('1')))))p(b(b[k=v](b(b('2')))))"},
		[2]string{"<p><b k=v l=w><b l=w k=v><b k=v l=w><b l=w k=v>1<p>2", "p(b[k=v l=w](b[l=w k=v](b[k=v l=w](b[l=w k=v]('1')))))p(b[l=w k=v](b[k=v l=w](b[l=w k=v]('2'))))"},
		// In their order, and each by its own attributes.
		[2]string{"<p><b k=1><i k=2><u k=3>1<p>2", "p(b[k=1](i[k=2](u[k=3]('1'))))p(b[k=1](i[k=2](u[k=3]('2'))))"},
		// Only from the first one on that is open no more.
		[2]string{"<b><p><i>1</p>2", "b(p(i('1'))i('2'))"},
		// What is made anew is so once.
		[2]string{"<p><b>1</p>2<span>3</span><br>4", "p(b('1'))b('2'span('3')br()'4')"},
		// Neither a comment nor a doctype makes anew.
		[2]string{"<p><b>1</p><!--c--><!doctype>2", "p(b('1'))!c!b('2')"},
	)
}

// P8.1: a heading pops one that is the current one, none that is further out.
func TestHeadings(t *testing.T) {
	within(t, "h1 h2 h3 h4 h5 h6",
		[2]string{"<NAME>a<h2>b", "NAME('a')h2('b')"},
		[2]string{"<h3>a<NAME>b", "h3('a')NAME('b')"},
		[2]string{"<NAME>a</h4>b", "NAME('a')'b'"},
		[2]string{"<h5>a<p>b</NAME>c", "h5('a'p('b'))'c'"},
	)
	reads(t,
		[2]string{"<h1>a<h2>b", "h1('a')h2('b')"},
		[2]string{"<h1>a<h1>b<h6>c", "h1('a')h1('b')h6('c')"},
		[2]string{"<h1>a<span><h2>b", "h1('a'span(h2('b')))"},
		[2]string{"<h1>a<p>b<h2>c", "h1('a'p('b'))h2('c')"},
		[2]string{"<h1>a<b>b<h2>c", "h1('a'b('b'h2('c')))"},
		[2]string{"<h1>a</h6>b", "h1('a')'b'"},
		[2]string{"<h1>a<p>b</h2>c", "h1('a'p('b'))'c'"},
		[2]string{"<h1>a<div>b</h1>c", "h1('a'div('b'))'c'"},
		[2]string{"<h1>a<object>b</h1>c", "h1('a'object('bc'))"},
		[2]string{"a</h1>b", "'ab'"},
		[2]string{"<h1>a<div><h2>b</h3>c</h3>d", "h1('a'div(h2('b')'c'))'d'"},
	)
}

// P8.1: li, dd and dt within one another, and within a special one.
func TestItems(t *testing.T) {
	reads(t,
		[2]string{"<ul><li>a<li>b</ul>c", "ul(li('a')li('b'))'c'"},
		[2]string{"<li>a<p>b<li>c", "li('a'p('b'))li('c')"},
		[2]string{"<li>a<div>b<li>c", "li('a'div('b'))li('c')"},
		[2]string{"<li>a<address>b<li>c", "li('a'address('b'))li('c')"},
		[2]string{"<li>a<div><p><address><li>c", "li('a'div(p()address()))li('c')"},
		[2]string{"<li>a<ul>b<li>c", "li('a'ul('b'li('c')))"},
		[2]string{"<li>a<section>b<li>c", "li('a'section('b'li('c')))"},
		[2]string{"<li>a<button>b<li>c", "li('a'button('b'li('c')))"},
		[2]string{"<li>a<dd>b<li>c", "li('a'dd('b'li('c')))"},
		[2]string{"<li>a<span>b<li>c", "li('a'span('b'))li('c')"},
		[2]string{"<li>a<b>b<li>c", "li('a'b('b'))li(b('c'))"},
		[2]string{"<li>a<option>b<li>c", "li('a'option('b'))li('c')"},
		[2]string{"<li>a<svg><desc>b<li>c", "li('a'svg:svg(svg:desc('b'li('c'))))"},
		[2]string{"<li>a<div><ul></ul><li>b", "li('a'div(ul()))li('b')"},
		[2]string{"<p>a<li>b", "p('a')li('b')"},
		[2]string{"<dl><dt>a<dd>b<dt>c<dt>d<dd>e<dd>f", "dl(dt('a')dd('b')dt('c')dt('d')dd('e')dd('f'))"},
		[2]string{"<dt>a<p>b<dd>c", "dt('a'p('b'))dd('c')"},
		[2]string{"<dd>a<div>b<dt>c", "dd('a'div('b'))dt('c')"},
		[2]string{"<dd>a<dl>b<dt>c", "dd('a'dl('b'dt('c')))"},
		[2]string{"<dd>a<li>b<dt>c", "dd('a'li('b'dt('c')))"},
		[2]string{"<dd>a<address><p>b<dd>c", "dd('a'address(p('b')))dd('c')"},
		[2]string{"<p>a<dd>b", "p('a')dd('b')"},
		// The end tags, and where they find nothing.
		[2]string{"<li>a</li>b", "li('a')'b'"},
		[2]string{"<li>a<p>b</li>c", "li('a'p('b'))'c'"},
		[2]string{"<li>a<span>b</li>c", "li('a'span('b'))'c'"},
		[2]string{"<li>a<ul>b</li>c", "li('a'ul('bc'))"},
		[2]string{"<li>a<ol>b</li>c", "li('a'ol('bc'))"},
		[2]string{"<li>a<button>b</li>c", "li('a'button('b'))'c'"},
		[2]string{"a</li>b</dd>c</dt>d", "'abcd'"},
		[2]string{"<dd>a<ul>b</dd>c", "dd('a'ul('b'))'c'"},
		[2]string{"<dd>a</dt>b", "dd('ab')"},
		[2]string{"<dt>a<li>b</dt>c", "dt('a'li('b'))'c'"},
		[2]string{"<dd>a<object>b</dd>c", "dd('a'object('bc'))"},
		[2]string{"<dd>a<option>b</dd>c", "dd('a'option('b'))'c'"},
	)
}

// P8.1: a p is closed where it is in ScopeButton.
func TestParagraphs(t *testing.T) {
	reads(t,
		[2]string{"<p>a<p>b", "p('a')p('b')"},
		[2]string{"<p>a<span>b<p>c", "p('a'span('b'))p('c')"},
		[2]string{"<p>a<b>b<div>c", "p('a'b('b'))div(b('c'))"},
		[2]string{"<p>a<button>b<p>c", "p('a'button('b'p('c')))"},
		[2]string{"<p>a<button>b</p>c", "p('a'button('b'p()'c'))"},
		[2]string{"<p>a<object>b<p>c", "p('a'object('b'p('c')))"},
		[2]string{"<p>a<object>b</p>c", "p('a'object('b'p()'c'))"},
		[2]string{"<p>a<svg><desc>b<p>c", "p('a'svg:svg(svg:desc('b'p('c'))))"},
		[2]string{"<p>a<ul>b</p>c", "p('a')ul('b'p()'c')"},
		[2]string{"<p>a<ruby><rt>b<p>c", "p('a'ruby(rt('b')))p('c')"},
		[2]string{"</p>a", "p()'a'"},
		[2]string{"a</p>b</p>c", "'a'p()'b'p()'c'"},
		[2]string{"<p k=v>a</p>b", "p[k=v]('a')'b'"},
		[2]string{"<p>a<li>b</p>c", "p('a')li('b'p()'c')"},
		[2]string{"<p>a<span>b</p>c", "p('a'span('b'))'c'"},
		[2]string{"<p><b>a</p>b</p>c", "p(b('a'))b('b'p()'c')"},
	)
}

// P8.1: form in form, button in button, option and optgroup.
func TestWithinItself(t *testing.T) {
	reads(t,
		[2]string{"<form>a<form>b</form>c", "form('ab')'c'"},
		[2]string{"<form>a<div><form k=v>b</form>c", "form('a'div('b'))'c'"},
		[2]string{"<form>a<button><form>b", "form('a'button('b'))"},
		[2]string{"<form>a</form><form>b", "form('a')form('b')"},
		[2]string{"<form><p>a<form>b", "form(p('ab'))"},
		[2]string{"<form>a<table><td><form>b</form>c", "form('a'table(tbody(tr(td('bc')))))"},
		[2]string{"<svg><form><desc><form>a", "svg:svg(svg:form(svg:desc(form('a'))))"},
		[2]string{"<form>a<p>b</form>c", "form('a'p('b'))'c'"},
		[2]string{"<form>a<div>b</form>c", "form('a'div('b'))'c'"},
		[2]string{"a</form>b", "'ab'"},
		[2]string{"<button>a<button>b", "button('a')button('b')"},
		[2]string{"<button>a<p>b<button>c", "button('a'p('b'))button('c')"},
		[2]string{"<button>a<div>b<button>c", "button('a'div('b'))button('c')"},
		[2]string{"<button>a<b>b<button>c", "button('a'b('b'))b(button('c'))"},
		[2]string{"<button>a<object>b<button>c", "button('a'object('b'button('c')))"},
		[2]string{"<button>a<p>b</button>c", "button('a'p('b'))'c'"},
		[2]string{"<button>a<object>b</button>c", "button('a'object('bc'))"},
		[2]string{"<option>a<option>b<optgroup>c<option>d<optgroup>e", "option('a')option('b')optgroup('c'option('d')optgroup('e'))"},
		[2]string{"<optgroup>a<optgroup>b", "optgroup('a'optgroup('b'))"},
		[2]string{"<option>a<span>b<option>c", "option('a'span('b'option('c')))"},
		[2]string{"<option>a<p>b</option>c", "option('a'p('bc'))"},
		[2]string{"<option>a<span>b</option>c", "option('a'span('b'))'c'"},
		[2]string{"<select><option>a<p>b</select>c", "select(option('a'p('bc')))"},
		[2]string{"<select><option>a</select>b", "select(option('a'))'b'"},
	)
}

// P8.1: rb, rtc, rp and rt, with and without ruby.
func TestRuby(t *testing.T) {
	within(t, "rb rtc",
		[2]string{"<ruby>a<rb>b<NAME>c", "ruby('a'rb('b')NAME('c'))"},
		[2]string{"<ruby>a<rtc>b<NAME>c", "ruby('a'rtc('b')NAME('c'))"},
		[2]string{"<ruby>a<rtc><rt>b<NAME>c", "ruby('a'rtc(rt('b'))NAME('c'))"},
		[2]string{"<ruby><p>a<NAME>b", "ruby(p('a')NAME('b'))"},
	)
	within(t, "rp rt",
		[2]string{"<ruby>a<rb>b<NAME>c", "ruby('a'rb('b')NAME('c'))"},
		[2]string{"<ruby>a<rtc>b<NAME>c", "ruby('a'rtc('b'NAME('c')))"},
		[2]string{"<ruby>a<rtc><rt>b<NAME>c", "ruby('a'rtc(rt('b')NAME('c')))"},
		[2]string{"<ruby>a<rt>b<NAME>c", "ruby('a'rt('b')NAME('c'))"},
	)
	within(t, "rb rtc rp rt",
		[2]string{"<rt>a<NAME>b", "rt('a'NAME('b'))"},
		[2]string{"<ruby><object><rt>a<NAME>b", "ruby(object(rt('a'NAME('b'))))"},
		[2]string{"<ruby><span>a<NAME>b", "ruby(span('a'NAME('b')))"},
		[2]string{"<ruby><rt>a<span>b<NAME>c", "ruby(rt('a'span('b'NAME('c'))))"},
		[2]string{"<ruby><NAME>a</NAME>b</ruby>c", "ruby(NAME('a')'b')'c'"},
		[2]string{"<ruby><NAME>a</ruby>b", "ruby(NAME('a'))'b'"},
	)
}

// P8.1: each row of Body's end tags.
func TestEndTags(t *testing.T) {
	within(t, skipNames,
		[2]string{"<p>1</NAME>2", "p('12')"},
		[2]string{"1</NAME>2", "'12'"},
	)
	within(t, strings.ReplaceAll(blockNames, " p ", " ")+" button form listing pre",
		[2]string{"1</NAME>2", "'12'"},
		[2]string{"<NAME>1</NAME>2", "NAME('1')'2'"},
		[2]string{"<NAME>1<p>2</NAME>3", "NAME('1'p('2'))'3'"},
		[2]string{"<NAME>1<span>2<li>3</NAME>4", "NAME('1'span('2'li('3')))'4'"},
		[2]string{"<NAME>1<object>2</NAME>3", "NAME('1'object('23'))"},
		[2]string{"<NAME>1<svg><g>2</NAME>3", "NAME('1'svg:svg(svg:g('2')))'3'"},
		[2]string{"<NAME>1<svg><desc>2</NAME>3", "NAME('1'svg:svg(svg:desc('23')))"},
		[2]string{"<NAME>1<svg><desc><i>2</NAME>3", "NAME('1'svg:svg(svg:desc(i('23'))))"},
	)
	within(t, "applet marquee object",
		[2]string{"1</NAME>2", "'12'"},
		[2]string{"<NAME>1<p>2</NAME>3", "NAME('1'p('2'))'3'"},
		[2]string{"<NAME>1<NAME>2</NAME>3</NAME>4", "NAME('1'NAME('2')'3')'4'"},
		[2]string{"<NAME>1<table>2</NAME>3", "NAME('123'table())"},
	)
	reads(t,
		[2]string{"<b><object><i>1</applet>2", "b(object(i('12')))"},
		[2]string{"<p><b>1</p></br k=v>2", "p(b('1'))b(br()'2')"},
		[2]string{"1</br>2", "'1'br()'2'"},
	)
}

// P8.1: OTHER.
func TestOtherEndTags(t *testing.T) {
	reads(t,
		[2]string{"<span>a</span>b", "span('a')'b'"},
		[2]string{"<span>a<x>b</span>c", "span('a'x('b'))'c'"},
		[2]string{"<span>a<b>b</span>c", "span('a'b('b'))b('c')"},
		[2]string{"<span>a<p>b</span>c", "span('a'p('bc'))"},
		[2]string{"<span>a<option>b<rt>c</span>d", "span('a'option('b'rt('c')))'d'"},
		[2]string{"<span k=1>a<span k=2>b</span>c</span>d", "span[k=1]('a'span[k=2]('b')'c')'d'"},
		[2]string{"a</span>b</x>c</ruby>d", "'abcd'"},
		[2]string{"<rt>a<rt>b</rt>c", "rt('a'rt('b')'c')"},
		[2]string{"<option>a<optgroup>b</option>c", "option('a')optgroup('bc')"},
		[2]string{"<noscript>a<span>b</noscript>c", "noscript('a'span('b'))'c'"},
		[2]string{"<select>a<template>b</select>c", "select('a'template('bc'))"},
		[2]string{"<div>a</br/>b</image>c</hr>d", "div('a'br()'bcd')"},
		[2]string{"<math><mi><b>x</mi>y", "math:math(math:mi(b('xy')))"},
		[2]string{"<svg><desc><span>x</svg>y", "svg:svg(svg:desc(span('xy')))"},
		// What has an end tag of Body's other rows, and is none of SpaceHtml.
		[2]string{"</svg>a</math>b</xmp>c</title>d", "'abcd'"},
	)
}

// P8.1: a line feed behind pre, listing and textarea.
func TestLineFeeds(t *testing.T) {
	within(t, "pre listing",
		[2]string{"<NAME>\nx", "NAME('x')"},
		[2]string{"<NAME>\n\nx", "NAME('\nx')"},
		[2]string{"<NAME>\n", "NAME()"},
		[2]string{"<NAME>\n<b>\nx", "NAME(b('\nx'))"},
		[2]string{"<NAME>x\n", "NAME('x\n')"},
		[2]string{"<NAME> \nx", "NAME(' \nx')"},
		[2]string{"<NAME>\rx", "NAME('\rx')"},
		[2]string{"<NAME>&#10;x", "NAME('x')"},
		[2]string{"<NAME></>\nx", "NAME('x')"},
		[2]string{"<NAME><!--c-->\nx", "NAME(!c!'\nx')"},
		[2]string{"<NAME><!doctype>\nx", "NAME('\nx')"},
		[2]string{"<NAME></x>\nx", "NAME('\nx')"},
		[2]string{"<NAME></NAME>\nx", "NAME()'\nx'"},
		[2]string{"<NAME><NAME>\nx", "NAME(NAME('x'))"},
		[2]string{"<NAME>\n<!--c-->\nx", "NAME(!c!'\nx')"},
		[2]string{"<p><b></p><NAME>\n</NAME>x", "p(b())NAME()b('x')"},
		[2]string{"<table><NAME>\n</NAME>\n", "NAME()table('\n')"},
		[2]string{"<svg><NAME/>\nx", "svg:svg()NAME('x')"},
	)
	reads(t,
		[2]string{"<textarea>\nx", "textarea('x')"},
		[2]string{"<textarea>\n\nx", "textarea('\nx')"},
		[2]string{"<textarea>\n</textarea>\nx", "textarea()'\nx'"},
		[2]string{"<textarea>\n", "textarea()"},
		[2]string{"<textarea>&#10;x</textarea>\n", "textarea('x')'\n'"},
		[2]string{"<textarea></textarea>\nx", "textarea()'\nx'"},
		// Behind none of the others.
		[2]string{"<div>\nx<title>\ny</title>\n<style>\nz</style><xmp>\nu</xmp><plaintext>\nv", "div('\nx'title('\ny')'\n'style('\nz')xmp('\nu')plaintext('\nv'))"},
	)
}

// P8.1: how tokens are read behind some start tags, up to their end tags and without one.
func TestModes(t *testing.T) {
	within(t, "title textarea",
		[2]string{"<NAME>a<b>&lt;<!--c--></NAME>d<b>e", "NAME('a<b><<!--c-->')'d'b('e')"},
		[2]string{"<NAME>a<b>&amp;", "NAME('a<b>&')"},
		[2]string{"<NAME>", "NAME()"},
		[2]string{"<NAME></NAME>", "NAME()"},
		[2]string{"<NAME/>a</p>", "NAME('a</p>')"},
		[2]string{"<NAME>a</NAMEs>b</ NAME>c</NAME\n>d", "NAME('a</NAMEs>b</ NAME>c')'d'"},
		[2]string{"<NAME>a</NAME", "NAME('a</NAME')"},
		[2]string{"<NAME>a</NAME k", "NAME('a')"},
		[2]string{"<NAME><NAME>a</NAME>b</NAME>c", "NAME('<NAME>a')'bc'"},
	)
	within(t, "style script noframes iframe noembed xmp",
		[2]string{"<NAME>a<b>&lt;<!--c--></NAME>d<b>e", "NAME('a<b>&lt;<!--c-->')'d'b('e')"},
		[2]string{"<NAME>a<b>&amp;", "NAME('a<b>&amp;')"},
		[2]string{"<NAME>", "NAME()"},
		[2]string{"<NAME/>a</p></NAME/>b", "NAME('a</p>')'b'"},
		[2]string{"<NAME></NAME>&lt;", "NAME()'<'"},
		[2]string{"<NAME><!--</NAME>-->a", "NAME('<!--')'-->a'"},
	)
	reads(t,
		[2]string{"a<plaintext>b&lt;<b></plaintext><!--c-->", "'a'plaintext('b&lt;<b></plaintext><!--c-->')"},
		[2]string{"<plaintext>", "plaintext()"},
		[2]string{"<STYLE>a</StYlE>b<TITLE>c</tItle>d<PLAINTEXT>e", "style('a')'b'title('c')'d'plaintext('e')"},
		[2]string{"<table><textarea>a</textarea><title>b</title> <style>c</style><script>d</script><xmp>e</xmp>", "textarea('a')title('b')xmp('e')table(' 'style('c')script('d'))"},
		[2]string{"<table><plaintext> <td>", "plaintext(' <td>')table()"},
		[2]string{"<svg><title>&lt;</title><style><b>x</style>", "svg:svg(svg:title('<')svg:style())b('x')"},
		[2]string{"<svg><title><i>&lt;</title><style><b></style>", "svg:svg(svg:title(i('<'style('<b>'))))"},
		[2]string{"<svg><desc><title><b></desc></title>x", "svg:svg(svg:desc(title('<b></desc>')'x'))"},
		[2]string{"<p><plaintext>a</p>", "p()plaintext('a</p>')"},
	)
}

// P8.1: comments and doctypes.
func TestOddTokens(t *testing.T) {
	reads(t,
		[2]string{"<!doctype x>a<!--b-->", "'a'!b!"},
		[2]string{"a<!--b-->c", "'a'!b!'c'"},
		[2]string{"a<!doctype html>b", "'ab'"},
		[2]string{"<p>a<!--><?b><!c></ d>", "p('a'!!!?b!!c!! d!)"},
		[2]string{"<table><!doctype><!--a--><tr><!doctype><!--b--><td><!doctype><!--c-->", "table(!a!tbody(tr(!b!td(!c!))))"},
		[2]string{"<table><caption><!--a--></caption><colgroup><!--b--><!doctype></colgroup><!--c--><tbody><!--d-->", "table(caption(!a!)colgroup(!b!)!c!tbody(!d!))"},
		[2]string{"<svg><!doctype>a<!--b--><![CDATA[c]]><desc><!--d--><!doctype>e", "svg:svg('a'!b!'c'svg:desc(!d!'e'))"},
		[2]string{"<![CDATA[a]]><svg><![CDATA[<b>&lt;]]></svg><![CDATA[c]]>", "![CDATA[a]]!svg:svg('<b>&lt;')![CDATA[c]]!"},
		[2]string{"<svg><desc><![CDATA[a]]><p><![CDATA[b]]>", "svg:svg(svg:desc('a'p(![CDATA[b]]!)))"},
	)
}

// R1: wrong and odd texts.
func TestOddTexts(t *testing.T) {
	reads(t,
		[2]string{"<", "'<'"},
		[2]string{"a < b", "'a < b'"},
		[2]string{"<b", ""},
		[2]string{"a<b c='", "'a'"},
		[2]string{"</>", ""},
		[2]string{"x</b c", "'x'"},
		[2]string{"\x00\xff<b\x00>\xc3", "'\x00\xff'b\x00('\xc3')"},
		[2]string{"<b k=1 k=2 K=3>x", "b[k=1]('x')"},
		[2]string{"</b></i></a></nobr></p></table></svg></td></x>", "p()"},
		[2]string{"<div =x><div/ /><div/>", "div[=x=](div(div()))"},
	)
}
