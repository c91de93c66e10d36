package build

import (
	"marginalia/api"
	"marginalia/kind"
	"marginalia/token"
)

func (b *builder) table(t api.Token) {
	switch {
	case t.Kind == api.TokenText && kind.White(t.Text) && is(b.current(), "table", "tbody", "tfoot", "thead", "tr"):
		b.insertText(t.Text)
	case t.Kind == api.TokenComment:
		b.insertComment(t.Text)
	case t.Kind == api.TokenStart:
		b.tableStart(t)
	case isStop(t, "table"):
		b.endTable()
	case isSkipped(t):
	default:
		b.whileFostered(b.body, t)
	}
}

func (b *builder) tableStart(t api.Token) {
	switch t.Name {
	case "caption":
		b.clearTo("table")
		b.pushMarker()
		b.insert(t)
		b.rules = inCaption
	case "colgroup":
		b.tablePart(t, inGroup)
	case "col":
		b.tablePart(api.Token{Name: "colgroup"}, inGroup)
		b.takeByRules(t)
	case "tbody", "tfoot", "thead":
		b.tablePart(t, inRows)
	case "td", "th", "tr":
		b.tablePart(api.Token{Name: "tbody"}, inRows)
		b.takeByRules(t)
	case "table":
		if b.endTable() {
			b.takeByRules(t)
		}
	case "style", "script":
		b.body(t)
	default:
		b.tableOdd(t)
	}
}

// tablePart: a part of a table, in which those rules are set.
func (b *builder) tablePart(t api.Token, r rules) {
	b.clearTo("table")
	b.insert(t)
	b.rules = r
}

// endTable: ends a table; tells whether there was one to end.
func (b *builder) endTable() bool {
	if !b.inScope(api.ScopeTable, "table") {
		return false
	}
	b.popUpTo("table")
	b.resetRules()
	return true
}

// tableOdd: a start tag that has no place in a table: two are let in, as long as they show nothing there.
func (b *builder) tableOdd(t api.Token) {
	switch {
	case t.Name == "input" && isHidden(t):
		b.insertEmpty(t)
	case t.Name == "form":
		if !b.isOpen("form") {
			b.insertEmpty(t)
		}
	default:
		b.whileFostered(b.body, t)
	}
}

func isHidden(t api.Token) bool {
	value, _ := token.Get(t.Attrs, "type")
	return kind.Lower(value) == "hidden"
}

func (b *builder) caption(t api.Token) {
	switch {
	case isPart(t), isStop(t, "caption", "table"):
		if !b.inScope(api.ScopeTable, "caption") {
			return
		}
		b.endImplied("")
		b.popUpTo("caption")
		b.clearMarks()
		b.rules = inTable
		if !isStop(t, "caption") {
			b.takeByRules(t)
		}
	case isSkipped(t):
	default:
		b.body(t)
	}
}

// isPart: is it the start tag of a part of a table?
func isPart(t api.Token) bool {
	return t.Kind == api.TokenStart && kind.Is(api.SetTable, t.Name)
}

func (b *builder) group(t api.Token) {
	switch {
	case t.Kind == api.TokenText:
		b.groupText(t)
	case t.Kind == api.TokenComment:
		b.insertComment(t.Text)
	case isStart(t, "col"):
		b.insertEmpty(t)
	case isStop(t, "colgroup"):
		b.endGroup()
	case isStop(t, "col"):
	default:
		if b.endGroup() {
			b.takeByRules(t)
		}
	}
}

func (b *builder) groupText(t api.Token) {
	spaces := 0
	for spaces < len(t.Text) && kind.Space(t.Text[spaces]) {
		spaces++
	}
	if spaces > 0 {
		b.insertText(t.Text[:spaces])
	}
	t.Text = t.Text[spaces:]
	if t.Text != "" && b.endGroup() {
		b.takeByRules(t)
	}
}

// endGroup: ends a colgroup; tells whether there was one to end.
func (b *builder) endGroup() bool {
	if !is(b.current(), "colgroup") {
		return false
	}
	b.pop()
	b.rules = inTable
	return true
}

func (b *builder) rows(t api.Token) {
	switch {
	case isStart(t, "tr"):
		b.startRow(t)
	case isStart(t, "td", "th"):
		b.startRow(api.Token{Name: "tr"})
		b.takeByRules(t)
	case isStart(t, "caption", "col", "colgroup", "tbody", "tfoot", "thead"), isStop(t, "table"):
		if b.endRows("tbody", "tfoot", "thead") {
			b.takeByRules(t)
		}
	case isStop(t, "tbody", "tfoot", "thead"):
		b.endRows(t.Name)
	case isSkipped(t):
	default:
		b.table(t)
	}
}

func (b *builder) startRow(t api.Token) {
	b.clearTo("tbody", "tfoot", "thead")
	b.insert(t)
	b.rules = inRow
}

// endRows: ends a tbody, tfoot or thead, if one of the names is in scope; tells whether one was.
func (b *builder) endRows(names ...string) bool {
	if !b.inScope(api.ScopeTable, names...) {
		return false
	}
	b.clearTo("tbody", "tfoot", "thead")
	b.pop()
	b.rules = inTable
	return true
}

func (b *builder) row(t api.Token) {
	switch {
	case isStart(t, "td", "th"):
		b.clearTo("tr")
		b.insert(t)
		b.rules = inCell
		b.pushMarker()
	case isPart(t), isStop(t, "table"):
		if b.endRow() {
			b.takeByRules(t)
		}
	case isStop(t, "tr"):
		b.endRow()
	case isStop(t, "tbody", "tfoot", "thead"):
		if b.inScope(api.ScopeTable, t.Name) && b.endRow() {
			b.takeByRules(t)
		}
	case isSkipped(t):
	default:
		b.table(t)
	}
}

// endRow: ends a tr; tells whether there was one to end.
func (b *builder) endRow() bool {
	if !b.inScope(api.ScopeTable, "tr") {
		return false
	}
	b.clearTo("tr")
	b.pop()
	b.rules = inRows
	return true
}

func (b *builder) cell(t api.Token) {
	switch {
	case isStop(t, "td", "th"):
		if b.inScope(api.ScopeTable, t.Name) {
			b.closeCell(t.Name)
		}
	case isPart(t):
		if b.inScope(api.ScopeTable, "td", "th") {
			b.closeCell("td", "th")
			b.takeByRules(t)
		}
	case isStop(t, "table", "tbody", "tfoot", "thead", "tr"):
		if b.inScope(api.ScopeTable, t.Name) {
			b.closeCell("td", "th")
			b.takeByRules(t)
		}
	case isSkipped(t):
	default:
		b.body(t)
	}
}

// closeCell: pops up to a cell of one of the names.
func (b *builder) closeCell(names ...string) {
	b.endImplied("")
	b.popUpTo(names...)
	b.clearMarks()
	b.rules = inRow
}
