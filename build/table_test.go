package build

import (
	"strings"
	"testing"

	"marginalia/api"
)

// P8.1, P8.4: Table.
func TestTable(t *testing.T) {
	reads(t,
		[2]string{"<table></table>x", "table()'x'"},
		[2]string{"<table k=v>", "table[k=v]()"},
		[2]string{"a</table>b", "'ab'"},
		// Texts of spaces stay, where the current one is of the table; others are fostered.
		[2]string{"<table> \t\n\f\r</table>", "table(' \t\n\f\r')"},
		[2]string{"<table> x </table>", "' x 'table()"},
		[2]string{"<table> <b> x", "b(' x')table(' ')"},
		[2]string{"<table><b> </b> ", "b(' ')table(' ')"},
		[2]string{"<table>&nbsp;", "'\u00a0'table()"},
		[2]string{"<table> </>x </>y", "'x y'table(' ')"},
		[2]string{"<table>&#32;<!--c-->&#9;", "table(' '!c!'\t')"},
		// Start tags.
		[2]string{"<table><caption k=v>a", "table(caption[k=v]('a'))"},
		[2]string{"<table><b><caption>a", "b()table(caption('a'))"},
		[2]string{"<table><caption>a<caption>b", "table(caption('a')caption('b'))"},
		[2]string{"<table><colgroup k=v>", "table(colgroup[k=v]())"},
		[2]string{"<table><b><colgroup>", "b()table(colgroup())"},
		[2]string{"<table><col k=v>", "table(colgroup(col[k=v]()))"},
		[2]string{"<table><p><col><col>", "p()table(colgroup(col()col()))"},
		[2]string{"<table><b><td k=v>a", "b()table(tbody(tr(td[k=v]('a'))))"},
		[2]string{"<table><th k=v>a", "table(tbody(tr(th[k=v]('a'))))"},
		[2]string{"<table><i><tr k=v>", "i()table(tbody(tr[k=v]()))"},
		[2]string{"<table>a<table>b", "'a'table()'b'table()"},
		[2]string{"<div><table><b>a<table>b", "div(b('a')table()b('b')table())"},
		[2]string{"<table><td>a<table>b<table>c", "table(tbody(tr(td('ab'table()'c'table()))))"},
		[2]string{"<table><style>a</style><script>b</script>", "table(style('a')script('b'))"},
		[2]string{"<table><b>a</b><style>b</style>c", "b('a')'c'table(style('b'))"},
		[2]string{"<table><form k=v>a</form>", "'a'table(form[k=v]())"},
		[2]string{"<table><form><form><form>", "table(form()form()form())"},
		[2]string{"<form><table><form>a", "form('a'table())"},
		[2]string{"<table><b><form>", "b(form())table()"},
		[2]string{"<table><body><frame><head><html>", "table()"},
		// End tags.
		[2]string{"<table><b>a</table>b", "b('a')table()b('b')"},
		[2]string{"<table></body></caption></col></colgroup></html></tbody></td></tfoot></th></thead></tr></frame></frameset></head> ", "table(' ')"},
		[2]string{"<table></p></br></div></b></x>", "p()br()table()"},
	)
	within(t, "tbody tfoot thead",
		[2]string{"<table><NAME k=v>", "table(NAME[k=v]())"},
		[2]string{"<table><b><NAME>a", "b()b('a')table(NAME())"},
	)
	within(t, "hidden HIDDEN hIdDeN", [2]string{"<table><input type=NAME k=v>a", "'a'table(input[type=NAME k=v]())"})
	reads(t,
		[2]string{"<table><input>", "input()table()"},
		[2]string{"<table><input type>", "input[type=]()table()"},
		[2]string{"<table><input type=text>", "input[type=text]()table()"},
		[2]string{"<table><input type=hiddenx>", "input[type=hiddenx]()table()"},
		[2]string{"<table><input type=' hidden'>", "input[type= hidden]()table()"},
		[2]string{"<table><input value=hidden>", "input[value=hidden]()table()"},
		[2]string{"<table><input k=v TYPE=\"Hidden\">", "table(input[k=v type=Hidden]())"},
		[2]string{"<table><b><input type=hidden>", "b(input[type=hidden]())table()"},
		[2]string{"<table><tr><input type=hidden>", "table(tbody(tr(input[type=hidden]())))"},
	)
}

// P8.1: what is fostered: each start tag of Body's, ahead of the table.
func TestFostered(t *testing.T) {
	within(t, "a b nobr div p h1 span form-x button object section li dd",
		[2]string{"<table><NAME>", "NAME()table()"},
		[2]string{"<table><tbody><NAME>", "NAME()table(tbody())"},
		[2]string{"<table><tr><NAME>x", "NAME('x')table(tbody(tr()))"},
		[2]string{"<div>a<table><NAME>", "div('a'NAME()table())"},
	)
	within(t, "br img hr meta input wbr", [2]string{"a<table>b<NAME>c", "'ab'NAME()'c'table()"})
	reads(t,
		[2]string{"<table>a", "'a'table()"},
		[2]string{"a<table>b", "'ab'table()"},
		[2]string{"<b>a<table>b", "b('ab'table())"},
		[2]string{"<table>a<tr>b<tr>c", "'abc'table(tbody(tr()tr()))"},
		[2]string{"<table>a<b>b</b>c", "'a'b('b')'c'table()"},
		[2]string{"<table><b>a<tr>b", "b('a')b('b')table(tbody(tr()))"},
		[2]string{"<table><b>a<td>b", "b('a')table(tbody(tr(td('b'))))"},
		[2]string{"<table><p>a<p>b", "p('a')p('b')table()"},
		[2]string{"<p>a<table>b", "p('a')'b'table()"},
		[2]string{"<table><svg>a<desc>b", "svg:svg('a'svg:desc('b'))table()"},
		[2]string{"<table><svg> </svg> ", "svg:svg(' ')table(' ')"},
		[2]string{"<table><td><table>a", "table(tbody(tr(td('a'table()))))"},
		[2]string{"<table><td><svg><desc><table>a", "table(tbody(tr(td(svg:svg(svg:desc('a'table()))))))"},
		[2]string{"<table><ul><li>a<li>b</ul>c", "ul(li('a')li('b'))'c'table()"},
		[2]string{"<table><b></table>a", "b()table()b('a')"},
		[2]string{"<p><b></p><table>a", "p(b())b('a')table()"},
		[2]string{"<table></p>a</br>", "p()'a'br()table()"},
		// No more behind the table.
		[2]string{"<table>a</table>b<div>c", "'a'table()'b'div('c')"},
		[2]string{"<table>a<td>b<div>c", "'a'table(tbody(tr(td('b'div('c')))))"},
	)
}

// P8.1: the place of what is fostered, where the table has no parent, and where no table is open.
func TestFosteredElsewhere(t *testing.T) {
	open := func(b *builder, name string) int {
		n := b.tree.Element(api.SpaceHtml, name, nil)
		b.open = append(b.open, api.Open{Id: n, Name: name})
		return n
	}
	show := func(b *builder) string { return short(b.tree.Value(root).Kids) }

	b := newBuilder()
	b.tree.Append(root, open(b, "div"))
	b.insertText("a")
	open(b, "table")
	b.whileFostered(b.body, api.Token{Kind: api.TokenText, Text: "b"})
	b.whileFostered(b.body, api.Token{Kind: api.TokenStart, Name: "i"})
	if got := show(b); got != "div('ab'i())" {
		t.Errorf("a table without a parent: %s", got)
	}

	b = newBuilder()
	b.tree.Append(root, open(b, "div"))
	b.tree.Append(1, open(b, "tr"))
	b.whileFostered(b.body, api.Token{Kind: api.TokenText, Text: "a"})
	b.whileFostered(b.body, api.Token{Kind: api.TokenStart, Name: "i"})
	if got := show(b); got != "div(tr())'a'i()" || b.fostered {
		t.Errorf("no table: %s", got)
	}

	// Of two tables the last one is taken.
	reads(t, [2]string{"<table><td><table><tr>a", "table(tbody(tr(td('a'table(tbody(tr()))))))"})
}

// P8.1, P8.4: Caption.
func TestCaption(t *testing.T) {
	within(t, "col",
		[2]string{"<table><caption>a<NAME>", "table(caption('a')colgroup(col()))"})
	within(t, "colgroup tbody tfoot thead caption",
		[2]string{"<table><caption>a<p>b<NAME>", "table(caption('a'p('b'))NAME())"},
		[2]string{"<table><caption><b>a<NAME></table>c", "table(caption(b('a'))NAME())'c'"})
	within(t, "td th", [2]string{"<table><caption>a<NAME>b", "table(caption('a')tbody(tr(NAME('b'))))"})
	within(t, "body col colgroup html tbody td tfoot th thead tr frame frameset head", [2]string{"<table><caption>a</NAME>b", "table(caption('ab'))"})
	reads(t,
		[2]string{"<table><caption>a<tr>", "table(caption('a')tbody(tr()))"},
		[2]string{"<table><caption>a</caption>b", "'b'table(caption('a'))"},
		[2]string{"<table><caption>a<p>b<b>c</caption>d", "'d'table(caption('a'p('b'b('c'))))"},
		[2]string{"<table><caption>a</table>b", "table(caption('a'))'b'"},
		[2]string{"<table><caption> <div>a</div> b", "table(caption(' 'div('a')' b'))"},
		[2]string{"<b><table><caption>a</b>b", "b(table(caption('ab')))"},
		[2]string{"<p><b></p><table><caption>a</caption>b", "p(b())b('b')table(caption('a'))"},
		[2]string{"<table><caption><table>a</caption>b</table>c", "table(caption('ab'table()'c'))"},
		[2]string{"<table><caption><svg><desc><td>a", "table(caption(svg:svg(svg:desc()))tbody(tr(td('a'))))"},
		[2]string{"<table><caption>a<input type=hidden><style>b</style>", "table(caption('a'input[type=hidden]()style('b')))"},
	)
}

// P8.1, P8.4: Group.
func TestGroup(t *testing.T) {
	reads(t,
		[2]string{"<table><colgroup> <col k=v> ", "table(colgroup(' 'col[k=v]()' '))"},
		[2]string{"<table><colgroup> a", "'a'table(colgroup(' '))"},
		[2]string{"<table><colgroup>a ", "'a 'table(colgroup())"},
		[2]string{"<table><colgroup> \t a b ", "'a b 'table(colgroup(' \t '))"},
		[2]string{"<table><col> <!--c-->", "table(colgroup(col()' '!c!))"},
		[2]string{"<table><colgroup></colgroup> a", "' a'table(colgroup())"},
		[2]string{"<table><colgroup></col><col>", "table(colgroup(col()))"},
		[2]string{"<table><colgroup><colgroup>", "table(colgroup()colgroup())"},
		[2]string{"<table><colgroup><td>a", "table(colgroup()tbody(tr(td('a'))))"},
		[2]string{"<table><colgroup><caption>a", "table(colgroup()caption('a'))"},
		[2]string{"<table><colgroup><b>a", "b('a')table(colgroup())"},
		[2]string{"<table><colgroup><col/><b><col>", "b()table(colgroup(col())colgroup(col()))"},
		[2]string{"<table><colgroup></table>a", "table(colgroup())'a'"},
		[2]string{"<table><colgroup></b><col>", "table(colgroup()colgroup(col()))"},
		[2]string{"<table><colgroup></tr> ", "table(colgroup()' ')"},
		[2]string{"<table><colgroup><table>", "table(colgroup())table()"},
		[2]string{"<table><colgroup><svg><col>", "svg:svg(svg:col())table(colgroup())"},
		[2]string{"<table><colgroup><style>a</style>", "table(colgroup()style('a'))"},
		[2]string{"<table><colgroup><body><col>", "table(colgroup()colgroup(col()))"},
	)
	// Where the current one is no colgroup all else is nothing.
	for _, token := range []api.Token{
		{Kind: api.TokenStop, Name: "colgroup"}, {Kind: api.TokenStop, Name: "table"}, {Kind: api.TokenStart, Name: "td"}, {Kind: api.TokenText, Text: "x"},
	} {
		b := newBuilder()
		b.rules = inGroup
		b.take(token)
		if b.rules != inGroup || b.tree.Len() != 1 || len(b.open) != 1 {
			t.Errorf("%v in Group, without a colgroup: %d, %d, %d", token, b.rules, b.tree.Len(), len(b.open))
		}
	}
}

// P8.1, P8.4: Rows.
func TestRows(t *testing.T) {
	within(t, "tbody tfoot thead",
		[2]string{"<table><NAME><tr k=v>", "table(NAME(tr[k=v]()))"},
		[2]string{"<table><NAME><td k=v>a", "table(NAME(tr(td[k=v]('a'))))"},
		[2]string{"<table><NAME><th>a", "table(NAME(tr(th('a'))))"},
		[2]string{"<table><NAME><b><tr>", "b()table(NAME(tr()))"},
		[2]string{"<table><NAME><caption>a", "table(NAME()caption('a'))"},
		[2]string{"<table><NAME><b><col>", "b()table(NAME()colgroup(col()))"},
		[2]string{"<table><NAME><colgroup>", "table(NAME()colgroup())"},
		[2]string{"<table><NAME><tbody><tfoot><thead>", "table(NAME()tbody()tfoot()thead())"},
		[2]string{"<table><NAME></table>a", "table(NAME())'a'"},
		[2]string{"<table><NAME><b></NAME> a", "b()b(' a')table(NAME())"},
		[2]string{"<table><NAME></NAME> ", "table(NAME()' ')"},
		[2]string{"<table><NAME></body></caption></col></colgroup></html></td></th></tr> ", "table(NAME(' '))"},
		[2]string{"<table><NAME> <!--c-->a", "'a'table(NAME(' '!c!))"},
		[2]string{"<table><NAME><table>", "table(NAME())table()"},
		[2]string{"<table><NAME><script>a</script><form>", "table(NAME(script('a')form()))"},
	)
	reads(t,
		[2]string{"<table><tbody></tfoot></thead> ", "table(tbody(' '))"},
		[2]string{"<table><tfoot></tbody> ", "table(tfoot(' '))"},
		[2]string{"<table><tbody><td><table><thead></tbody> ", "table(tbody(tr(td(table(thead(' '))))))"},
	)
	// Where none of them is in ScopeTable.
	for _, name := range strings.Fields("caption col colgroup tbody tfoot thead") {
		nothingDone(t, inRows, api.Token{Kind: api.TokenStart, Name: name}, "tbody", "table")
	}
	for _, name := range strings.Fields("table tbody tfoot thead") {
		nothingDone(t, inRows, api.Token{Kind: api.TokenStop, Name: name}, "tbody", "table")
	}
}

// nothingDone: by these rules, where such are open, the token does nothing.
func nothingDone(t *testing.T, r rules, token api.Token, names ...string) {
	t.Helper()
	b := newBuilder()
	for _, name := range names {
		b.insertBare(name)
	}
	b.rules = r
	b.take(token)
	if b.rules != r || b.tree.Len() != 1+len(names) || len(b.open) != 1+len(names) {
		t.Errorf("%v by the rules %d: %d, %s, %v", token, r, b.rules, short(b.tree.Value(root).Kids), b.open)
	}
}

// P8.1, P8.4: Row.
func TestRow(t *testing.T) {
	within(t, "td th",
		[2]string{"<table><tr><NAME k=v>a", "table(tbody(tr(NAME[k=v]('a'))))"},
		[2]string{"<table><tr><b>a<NAME>b", "b('a')table(tbody(tr(NAME('b'))))"},
		[2]string{"<table><tr><NAME><b>a</NAME><NAME>b", "table(tbody(tr(NAME(b('a'))NAME('b'))))"},
		[2]string{"<table><tr><NAME><p>a</b>", "table(tbody(tr(NAME(p('a')))))"},
	)
	within(t, "caption colgroup tbody tfoot thead", [2]string{"<table><tr><b><NAME>", "b()table(tbody(tr())NAME())"})
	within(t, "tbody tfoot thead", [2]string{"<table><NAME><tr><b></NAME> ", "b()table(NAME(tr())' ')"})
	within(t, "tfoot thead", [2]string{"<table><tr></NAME> ", "table(tbody(tr(' ')))"})
	within(t, "body caption col colgroup html td th", [2]string{"<table><tr></NAME> ", "table(tbody(tr(' ')))"})
	reads(t,
		[2]string{"<table><tr><tr k=v>", "table(tbody(tr()tr[k=v]()))"},
		[2]string{"<table><tr><col>", "table(tbody(tr())colgroup(col()))"},
		[2]string{"<table><tr></table>a", "table(tbody(tr()))'a'"},
		[2]string{"<table><tr><b></tr> a", "b()b(' a')table(tbody(tr()))"},
		[2]string{"<table><tr></tr> ", "table(tbody(tr()' '))"},
		[2]string{"<table><tr> <!--c-->a", "'a'table(tbody(tr(' '!c!)))"},
		[2]string{"<table><tr><table>", "table(tbody(tr()))table()"},
		[2]string{"<table><tr><style>a</style>", "table(tbody(tr(style('a'))))"},
	)
	// Where tr is not in ScopeTable, or what ends is not.
	for _, name := range strings.Fields("caption col colgroup tbody tfoot thead tr") {
		nothingDone(t, inRow, api.Token{Kind: api.TokenStart, Name: name}, "tr", "table", "tbody")
	}
	for _, name := range strings.Fields("table tbody tfoot thead tr") {
		nothingDone(t, inRow, api.Token{Kind: api.TokenStop, Name: name}, "tr", "table", "tbody")
	}
	nothingDone(t, inRow, api.Token{Kind: api.TokenStop, Name: "tbody"}, "table", "thead", "tr")
}

// P8.1, P8.4: Cell.
func TestCell(t *testing.T) {
	within(t, "td th",
		[2]string{"<table><tr><NAME>a</NAME> ", "table(tbody(tr(NAME('a')' ')))"},
		[2]string{"<table><tr><NAME>a<p>b<b>c</NAME>d", "'d'table(tbody(tr(NAME('a'p('b'b('c'))))))"},
		[2]string{"<table><tr><NAME>a<span><li>b</NAME> ", "table(tbody(tr(NAME('a'span(li('b')))' ')))"},
		[2]string{"<table><tr><NAME>a<td>b<th>c", "table(tbody(tr(NAME('a')td('b')th('c'))))"},
		[2]string{"<table><tr><NAME>a<p>b<tr>", "table(tbody(tr(NAME('a'p('b')))tr()))"},
		[2]string{"<table><tr><NAME>a<caption>b", "table(tbody(tr(NAME('a')))caption('b'))"},
		[2]string{"<table><tr><NAME>a<col>", "table(tbody(tr(NAME('a')))colgroup(col()))"},
		[2]string{"<table><tr><NAME>a<colgroup>", "table(tbody(tr(NAME('a')))colgroup())"},
		[2]string{"<table><tr><NAME>a<tfoot>", "table(tbody(tr(NAME('a')))tfoot())"},
		[2]string{"<table><tr><NAME>a</tr> ", "table(tbody(tr(NAME('a'))' '))"},
		[2]string{"<table><tr><NAME>a</tbody> ", "table(tbody(tr(NAME('a')))' ')"},
		[2]string{"<table><tr><NAME>a</table>b", "table(tbody(tr(NAME('a'))))'b'"},
		[2]string{"<table><tr><NAME>a</tfoot></thead></body></caption></col></colgroup></html>b", "table(tbody(tr(NAME('ab'))))"},
		[2]string{"<table><tr><NAME>a<table>b</NAME>c", "table(tbody(tr(NAME('abc'table()))))"},
		[2]string{"<table><tr><NAME>a<table></table>b</NAME> ", "table(tbody(tr(NAME('a'table()'b')' ')))"},
		[2]string{"<table><tr><NAME>a<table></table><td>b", "table(tbody(tr(NAME('a'table())td('b'))))"},
		[2]string{"<table><tr><NAME> a <div>b", "table(tbody(tr(NAME(' a 'div('b')))))"},
		[2]string{"<table><tr><NAME><p><b>a</p>b<NAME>c", "table(tbody(tr(NAME(p(b('a'))b('b'))NAME('c'))))"},
		[2]string{"<table><tr><NAME><svg><desc><td>a", "table(tbody(tr(NAME(svg:svg(svg:desc()))td('a'))))"},
	)
	reads(t,
		[2]string{"<table><td>a</th>b", "table(tbody(tr(td('ab'))))"},
		[2]string{"<table><th>a</td>b", "table(tbody(tr(th('ab'))))"},
		[2]string{"<b><table><td>a</table>b", "b(table(tbody(tr(td('a'))))'b')"},
		[2]string{"<table><b><td><i>a</table>c", "b()table(tbody(tr(td(i('a')))))b('c')"},
		[2]string{"<table><td><form>a<form>b</form><form>c", "table(tbody(tr(td(form('ab')form('c')))))"},
	)
	within(t, "tbody tfoot thead",
		[2]string{"<table><NAME><td>a</NAME> ", "table(NAME(tr(td('a')))' ')"},
		[2]string{"<table><NAME><th>a<object>b</NAME> ", "table(NAME(tr(th('a'object('b'))))' ')"},
	)
	// A cell within a cell: the inner one is closed.
	reads(t,
		[2]string{"<table><th><table><td>a</tr> ", "table(tbody(tr(th(table(tbody(tr(td('a'))' '))))))"},
		[2]string{"<table><td><table><th>a</tr> ", "table(tbody(tr(td(table(tbody(tr(th('a'))' '))))))"},
		[2]string{"<table><th><table><td>a<tr> ", "table(tbody(tr(th(table(tbody(tr(td('a'))tr(' ')))))))"},
		[2]string{"<table><td><table><th>a<tr> ", "table(tbody(tr(td(table(tbody(tr(th('a'))tr(' ')))))))"},
	)
	// Where neither td nor th is in ScopeTable, or what ends is not.
	for _, name := range strings.Fields("caption col colgroup tbody td tfoot th thead tr") {
		nothingDone(t, inCell, api.Token{Kind: api.TokenStart, Name: name}, "td", "th", "table")
		nothingDone(t, inCaption, api.Token{Kind: api.TokenStart, Name: name}, "caption", "table")
	}
	for _, name := range strings.Fields("tbody td tfoot th thead tr") {
		nothingDone(t, inCell, api.Token{Kind: api.TokenStop, Name: name}, "td", "th", "table")
	}
	nothingDone(t, inCell, api.Token{Kind: api.TokenStop, Name: "table"}, "td")
	nothingDone(t, inCell, api.Token{Kind: api.TokenStop, Name: "tbody"}, "table", "thead", "tr", "td")
	nothingDone(t, inCaption, api.Token{Kind: api.TokenStop, Name: "table"}, "caption", "table")
	nothingDone(t, inCaption, api.Token{Kind: api.TokenStop, Name: "caption"}, "caption", "table")
	nothingDone(t, inTable, api.Token{Kind: api.TokenStart, Name: "table"}, "div")
	nothingDone(t, inTable, api.Token{Kind: api.TokenStop, Name: "table"}, "div")
}

// P8.1, P8.4: ScopeTable goes on where ScopeAll ends.
func TestScopeTable(t *testing.T) {
	within(t, "object applet marquee",
		[2]string{"<table><NAME>a</table>b", "NAME('a')table()'b'"},
		[2]string{"<table><NAME>a<table>b", "NAME('a')table()'b'table()"},
		[2]string{"<table><caption><NAME>a</caption> ", "table(caption(NAME('a'))' ')"},
		[2]string{"<table><caption><NAME>a<tbody> ", "table(caption(NAME('a'))tbody(' '))"},
		[2]string{"<table><tbody><NAME>a</tbody> ", "NAME('a')table(tbody()' ')"},
		[2]string{"<table><tbody><NAME>a<thead> ", "NAME('a')table(tbody()thead(' '))"},
		[2]string{"<table><tr><NAME>a</tr> ", "NAME('a')table(tbody(tr()' '))"},
		[2]string{"<table><tr><NAME>a</tbody> ", "NAME('a')table(tbody(tr())' ')"},
		[2]string{"<table><tr><NAME>a<tr> ", "NAME('a')table(tbody(tr()tr(' ')))"},
		[2]string{"<table><td><NAME>a</td> ", "table(tbody(tr(td(NAME('a'))' ')))"},
		[2]string{"<table><td><NAME>a</tr> ", "table(tbody(tr(td(NAME('a')))' '))"},
		[2]string{"<table><td><NAME>a<td>b", "table(tbody(tr(td(NAME('a'))td('b'))))"},
	)
	reads(t,
		[2]string{"<table><td><svg><desc>a</td> ", "table(tbody(tr(td(svg:svg(svg:desc('a')))' ')))"},
		[2]string{"<table><td><template>a</td>b<td>c", "table(tbody(tr(td(template('abc')))))"},
		[2]string{"<table><template>a</table>b<table>c", "template('abc')table()"},
	)
}

// P8.1: the rules by what is open, and what is cleared where none of the names is.
func TestResetAndClear(t *testing.T) {
	for _, x := range []struct {
		open string
		want rules
	}{
		{"", inBody}, {"div b", inBody}, {"table", inTable}, {"table div", inTable},
		{"table tbody", inRows}, {"table tfoot b", inRows}, {"table thead", inRows},
		{"table tbody tr", inRow}, {"table tbody tr p", inRow}, {"table tbody tr td", inCell}, {"table tbody tr th i", inCell},
		{"table caption", inCaption}, {"table caption p", inCaption}, {"table colgroup", inGroup}, {"td table", inTable}, {"table tr td ul li", inCell},
	} {
		b := newBuilder()
		for _, name := range strings.Fields(x.open) {
			b.insertBare(name)
		}
		b.insertElement(api.SpaceSvg, "td", nil)
		b.rules = inGroup
		b.resetRules()
		if b.rules != x.want {
			t.Errorf("%q: the rules %d, not %d", x.open, b.rules, x.want)
		}
		b.clearTo("x")
		b.pop()
		if len(b.open) != 1 || b.open[0].Id != root {
			t.Errorf("%q: cleared to %v", x.open, b.open)
		}
	}
}

// P8.1: of items that are open within one another, which no text leads to, one is closed.
func TestOneItem(t *testing.T) {
	for _, x := range [][2]string{{"li div li", "li"}, {"dd div dt", "dd"}, {"dt address span dd", "dt"}} {
		b := newBuilder()
		for _, name := range strings.Fields(x[0]) {
			b.insertBare(name)
		}
		ahead := len(b.open) - 1
		b.take(api.Token{Kind: api.TokenStart, Name: x[1]})
		if len(b.open) != ahead+1 || b.current().Name != x[1] || b.tree.Parent(b.current().Id) != b.open[ahead-1].Id {
			t.Errorf("%s behind %s: %v", x[1], x[0], b.open)
		}
	}
}

// P8.1, P8.4: tables within tables: the rules are set anew by what is open.
func TestNestedTables(t *testing.T) {
	reads(t,
		[2]string{"<table><td><table></table>a<td>b", "table(tbody(tr(td(table()'a')td('b'))))"},
		[2]string{"<table><caption><table></table>a<td>b", "table(caption(table()'a')tbody(tr(td('b'))))"},
		[2]string{"<table><td><table><td>a</table>b</table>c", "table(tbody(tr(td(table(tbody(tr(td('a'))))'b'))))'c'"},
		[2]string{"<table><td><div><table><td>a</table>b</div>c", "table(tbody(tr(td(div(table(tbody(tr(td('a'))))'b')'c'))))"},
		[2]string{"<table><td><table><td><table><td>a</table></table><td>b", "table(tbody(tr(td(table(tbody(tr(td(table(tbody(tr(td('a')))))))))td('b'))))"},
		[2]string{"<div><table><td></table>a<td>b", "div(table(tbody(tr(td())))'ab')"},
		// A table in a table's own rules takes the outer one's place.
		[2]string{"<table><tbody><table><td>a", "table(tbody())table(tbody(tr(td('a'))))"},
		[2]string{"<table><td><table><tr><table>a", "table(tbody(tr(td(table(tbody(tr()))'a'table()))))"},
		[2]string{"<table><svg><desc><table>a", "svg:svg(svg:desc())table()'a'table()"},
	)
}
