package build

import (
	"strings"
	"testing"
)

// P8.1: to adopt, where nothing stands between that is special.
func TestAdoptPlain(t *testing.T) {
	within(t, formatNames+" a nobr",
		[2]string{"<NAME k=v>1</NAME>2", "NAME[k=v]('1')'2'"},
		[2]string{"1</NAME>2", "'12'"},
		[2]string{"<NAME>1<span>2</NAME>3", "NAME('1'span('2'))'3'"},
		[2]string{"<p><NAME>1</p></NAME>2", "p(NAME('1'))'2'"},
		[2]string{"<NAME>1<object>2</NAME>3", "NAME('1'object('23'))"},
		[2]string{"<NAME>1<svg><desc>2</NAME>3</svg>4", "NAME('1'svg:svg(svg:desc('23'))'4')"},
		[2]string{"<NAME>1<p>2</NAME>3", "NAME('1')p(NAME('2')'3')"},
	)
	reads(t,
		// Elements between are made anew behind it, if they are formatting.
		[2]string{"<b>1<i>2</b>3</i>4", "b('1'i('2'))i('3')'4'"},
		[2]string{"<b>1<i>2<u>3</b>4", "b('1'i('2'u('3')))i(u('4'))"},
		[2]string{"<b>1<b>2</b>3</b>4", "b('1'b('2')'3')'4'"},
		// No mark: the current one of that name is popped, another one is closed as OTHER.
		[2]string{"<b><b><b><b>1</b>2</b>3</b>4</b>5", "b(b(b(b('1')'2')'3')'4')'5'"},
		[2]string{"<b><b><b><b>1</b></b></b>2<span>3</b>4", "b(b(b(b('1')))'2'span('3'))'4'"},
		[2]string{"<b><b><b><b>1</b></b></b>2<p>3</b>4", "b(b(b(b('1')))'2'p('34'))"},
		[2]string{"<b><object>1</b>2<span>3</b>4</object>5", "b(object('12'span('34'))'5')"},
		// A mark whose element is open no more goes: the end tag has no other end.
		[2]string{"<b><p><b>1</p></b>2", "b(p(b('1'))'2')"},
		[2]string{"<p><b>1</p></b>2</b>3", "p(b('1'))'23'"},
		[2]string{"<p><i>1<b>2</p></b>3", "p(i('1'b('2')))i('3')"},
		// Behind a scope's end.
		[2]string{"<b>1<table><td>2</b>3", "b('1'table(tbody(tr(td('23')))))"},
		[2]string{"<b>1<table><caption>2</b>3", "b('1'table(caption('23')))"},
		[2]string{"<b>1<marquee>2</b>3", "b('1'marquee('23'))"},
		[2]string{"<b>1<template>2</b>3", "b('1'template('23'))"},
		[2]string{"<b>1<math><mi>2</b>3", "b('1'math:math(math:mi('23')))"},
		[2]string{"<b>1<table></b>2", "b('12'table())"},
	)
}

// P8.1: to adopt with a special one behind it, and one to five elements between.
func TestAdoptBetween(t *testing.T) {
	reads(t,
		[2]string{"<b>1<p>2</b>3", "b('1')p(b('2')'3')"},
		[2]string{"<b k=v>1<div>2</b>3", "b[k=v]('1')div(b[k=v]('2')'3')"},
		[2]string{"<b><p></b>", "b()p(b())"},
		[2]string{"<b><p><!--c-->1<u>2</b>3", "b()p(b(!c!'1'u('2'))u('3'))"},
		// One between: a span goes with b, formatting lives on as a copy.
		[2]string{"<b>1<span>2<p>3</b>4", "b('1'span('2'))p(b('3')'4')"},
		[2]string{"<b>1<i k=v>2<p>3</b>4", "b('1'i[k=v]('2'))i[k=v](p(b('3')'4'))"},
		[2]string{"<b>1<i>2<p>3</b>4</i>5", "b('1'i('2'))i()p(i(b('3')'4')'5')"},
		// Two.
		[2]string{"<b>1<i>2<u>3<p>4</b>5", "b('1'i('2'u('3')))i(u(p(b('4')'5')))"},
		[2]string{"<b>1<i>2<span>3<p>4</b>5", "b('1'i('2'span('3')))i(p(b('4')'5'))"},
		[2]string{"<b>1<span>2<i>3<p>4</b>5", "b('1'span('2'i('3')))i(p(b('4')'5'))"},
		// Three.
		[2]string{"<b><i><u><s>1<p>2</b>3", "b(i(u(s('1'))))i(u(s(p(b('2')'3'))))"},
		// Four: the fourth one, counted from the p, loses its mark.
		[2]string{"<b><i><u><s><em>1<p>2</b>3", "b(i(u(s(em('1')))))u(s(em(p(b('2')'3'))))"},
		[2]string{"<b><i><u><s><em>1<p>2</b>3</p>4<div>5</u>6", "b(i(u(s(em('1')))))u(s(em(p(b('2')'3')'4')))s(em(div(u('5')'6')))"},
		// Five: the fifth one too.
		[2]string{"<b><i><u><s><em><tt>1<p>2</b>3", "b(i(u(s(em(tt('1'))))))s(em(tt(p(b('2')'3'))))"},
		// One without a mark counts too.
		[2]string{"<b><i><u><span><em><tt>1<p>2</b>3", "b(i(u(span(em(tt('1'))))))em(tt(p(b('2')'3')))"},
		[2]string{"<b><i><u><x><y><span>1<p>2</b>3", "b(i(u(x(y(span('1'))))))p(b('2')'3')"},
		// Of several special ones the first is taken; a second round takes the next.
		[2]string{"<b>1<div>2<p>3</b>4", "b('1')div(b('2')p(b('3')'4'))"},
		[2]string{"<b>1<p>2<div>3</b>4", "b('1'p('2'))div(b('3')'4')"},
		[2]string{"<b>1<div>2<ul>3<li>4</b>5", "b('1')div(b('2')ul(b('3')li(b('4')'5')))"},
	)
}

// P8.1: where marks stand behind an adoption: what is made anew, and in what order.
func TestAdoptBookmark(t *testing.T) {
	reads(t,
		// Ended ahead of the copy of b: the second round ends that; marks of others stay.
		[2]string{"<b><i><p>1</b>2</p>3", "b(i())i(p(b('1')'2')'3')"},
		[2]string{"<section><b><i><u><div>1</b>2</div>3</section>4", "section(b(i(u()))i(u(div(b('1')'2')'3')))i(u('4'))"},
		// Seven blocks are done with in eight rounds; of eight and more the last copy of b stays open.
		[2]string{"<b>" + strings.Repeat("<div>", 7) + "x</b>y", "b()" + strings.Repeat("div(b()", 6) + "div(b('x')'y')" + strings.Repeat(")", 6)},
		[2]string{"<b>" + strings.Repeat("<div>", 8) + "x</b>y", "b()" + strings.Repeat("div(b()", 7) + "div(b('xy'))" + strings.Repeat(")", 7)},
		[2]string{"<b>" + strings.Repeat("<div>", 9) + "x</b>y", "b()" + strings.Repeat("div(b()", 7) + "div(b(div('xy')))" + strings.Repeat(")", 7)},
		[2]string{"<b>" + strings.Repeat("<div>", 9) + "x</b>y</b>z", "b()" + strings.Repeat("div(b()", 8) + "div(b('xy')'z')" + strings.Repeat(")", 8)},
		// Where its mark stands then: behind those of the elements between, ahead of those that came later; with its attributes.
		[2]string{"<section><b k=v>" + strings.Repeat("<div>", 8) + "x</b></section>y", "section(b[k=v]()" + strings.Repeat("div(b[k=v]()", 7) + "div(b[k=v]('x'))" + strings.Repeat(")", 8) + "b[k=v]('y')"},
		[2]string{"<section><b><i>" + strings.Repeat("<div>", 8) + "</b></section>y", "section(b(i())i(" + strings.Repeat("div(b()", 7) + "div(b())" + strings.Repeat(")", 9) + "i(b('y'))"},
		[2]string{"<section><b><i>" + strings.Repeat("<div>", 8) + "<u></b></section>y", "section(b(i())i(" + strings.Repeat("div(b()", 7) + "div(b(u()))" + strings.Repeat(")", 9) + "i(b(u('y')))"},
		[2]string{"<section><tt><b><i>" + strings.Repeat("<div>", 8) + "<u></b></section>y", "section(tt(b(i())i(" + strings.Repeat("div(b()", 7) + "div(b(u()))" + strings.Repeat(")", 10) + "tt(i(b(u('y'))))"},
		[2]string{"<section><b><i><tt><s><em>" + strings.Repeat("<div>", 8) + "<u></b></section>y", "section(b(i(tt(s(em()))))tt(s(em(" + strings.Repeat("div(b()", 7) + "div(b(u()))" + strings.Repeat(")", 11) + "tt(s(em(b(u('y')))))"},
	)
}

// P8.1: a in a, nobr in nobr.
func TestLinkInLink(t *testing.T) {
	reads(t,
		[2]string{"<a>1<a>2", "a('1')a('2')"},
		[2]string{"<a k=1>1<a k=2>2</a>3</a>4", "a[k=1]('1')a[k=2]('2')'34'"},
		[2]string{"<a>1<b>2<a>3", "a('1'b('2'))b(a('3'))"},
		[2]string{"<a>1<p>2<a>3", "a('1')p(a('2')a('3'))"},
		[2]string{"<a>1<object>2<a>3</object>4", "a('1'object('2'a('3'))'4')"},
		[2]string{"<a>1<span>2<a>3", "a('1'span('2'))a('3')"},
		// Behind a scope's end it goes from the marks and the open ones all the same.
		[2]string{"<a>1<table><a>2</table>3", "a('1'a('2')table())a('3')"},
		[2]string{"<a>1<table><tr><a>2</table>3</a>4", "a('1'a('2')table(tbody(tr())))a('3')'4'"},
		[2]string{"<a>1<svg><desc><a>2</svg>3", "a('1'svg:svg(svg:desc(a('23'))))"},
		// One whose mark is there and that is open no more.
		[2]string{"<p><a>1</p><a>2", "p(a('1'))a('2')"},
		[2]string{"<p><a>1</p>2<a>3", "p(a('1'))a('2')a('3')"},
		[2]string{"<nobr>1<nobr>2", "nobr('1')nobr('2')"},
		[2]string{"<nobr>1<p>2<nobr>3", "nobr('1')p(nobr('2')nobr('3'))"},
		[2]string{"<nobr>1<b>2<nobr>3", "nobr('1'b('2'))b(nobr('3'))"},
		[2]string{"<nobr>1<object>2<nobr>3", "nobr('1'object('2'nobr('3')))"},
		[2]string{"<p><nobr>1</p><nobr>2", "p(nobr('1'))nobr()nobr('2')"},
		[2]string{"<p><b><nobr>1</p><nobr>2", "p(b(nobr('1')))b(nobr()nobr('2'))"},
	)
}

// P8.1: to adopt with a table between, and while it is fostered.
func TestAdoptFostered(t *testing.T) {
	reads(t,
		[2]string{"<table><b>1<p>2</b>3", "b('1')p(b('2')'3')table()"},
		[2]string{"<table><tr><b>1<p>2</b>3", "b('1')p(b('2')'3')table(tbody(tr()))"},
		[2]string{"<div><table><b>1<i>2<p>3</b>4", "div(b('1'i('2'))i(p(b('3')'4'))table())"},
		[2]string{"<b>1<table>2</b>3", "b('123'table())"},
		[2]string{"<b>1<div>2<table>3</b>4</table>5</b>6", "b('1')div(b('234'table()'5')'6')"},
		[2]string{"<table><a>1<p>2<a>3", "a('1')p(a('2')a('3'))table()"},
		// A closed table between is moved with the rest.
		[2]string{"<b>1<div><table></table>2</b>3", "b('1')div(b(table()'2')'3')"},
	)
}
