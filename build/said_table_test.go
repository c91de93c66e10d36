package build

import (
	"strings"

	"marginalia/api"
	"marginalia/kind"
)

// The second reading of the tables' rules.

const saidThree = "tbody tfoot thead"

func isSkip(t api.Token) bool { return t.Kind == api.TokenStop && kind.Is(api.SetSkip, t.Name) }

func (x *said) table(t api.Token) {
	switch {
	case t.Kind == api.TokenText && strings.Trim(t.Text, "\t\n\f\r ") == "" && x.current().is("table tr "+saidThree):
		x.text(t.Text)
	case t.Kind == api.TokenComment:
		x.comment(t.Text)
	case start(t, "caption"):
		x.clearTo("table")
		x.marker()
		x.insert(t)
		x.rules = "Caption"
	case start(t, "colgroup"):
		x.clearTo("table")
		x.insert(t)
		x.rules = "Group"
	case start(t, "col"):
		x.table(api.Token{Kind: api.TokenStart, Name: "colgroup"})
		x.byRules(t)
	case start(t, saidThree):
		x.clearTo("table")
		x.insert(t)
		x.rules = "Rows"
	case start(t, "td th tr"):
		x.table(api.Token{Kind: api.TokenStart, Name: "tbody"})
		x.byRules(t)
	case start(t, "table"):
		if x.inTable("table") {
			x.popUpTo("table")
			x.reset()
			x.byRules(t)
		}
	case start(t, "style script"):
		x.bodyStart(t)
	case start(t, "input") && hiddenType(t):
		x.insertPopped(t)
	case start(t, "form"):
		if !x.isOpen("form") {
			x.insertPopped(t)
		}
	case stop(t, "table"):
		if x.inTable("table") {
			x.popUpTo("table")
			x.reset()
		}
	case isSkip(t):
	default:
		x.foster = true
		x.body(t)
		x.foster = false
	}
}

func hiddenType(t api.Token) bool {
	for _, a := range t.Attrs {
		if a.Name == "type" && len(a.Value) == 6 && strings.EqualFold(a.Value, "hidden") {
			return true
		}
	}
	return false
}

func (x *said) caption(t api.Token) {
	switch {
	case start(t, "caption col colgroup tbody td tfoot th thead tr"), stop(t, "caption table"):
		if !x.inTable("caption") {
			return
		}
		x.implied("")
		x.popUpTo("caption")
		x.clearMarks()
		x.rules = "Table"
		if !stop(t, "caption") {
			x.byRules(t)
		}
	case isSkip(t):
	default:
		x.body(t)
	}
}

func (x *said) group(t api.Token) {
	switch {
	case t.Kind == api.TokenText:
		rest := strings.TrimLeft(t.Text, "\t\n\f\r ")
		if len(rest) < len(t.Text) {
			x.text(t.Text[:len(t.Text)-len(rest)])
		}
		if rest == "" {
			return
		}
		t.Text = rest
	case t.Kind == api.TokenComment:
		x.comment(t.Text)
		return
	case start(t, "col"):
		x.insertPopped(t)
		return
	case stop(t, "col"):
		return
	}
	if x.current().is("colgroup") {
		x.pop()
		x.rules = "Table"
		if !stop(t, "colgroup") {
			x.byRules(t)
		}
	}
}

func (x *said) rows(t api.Token) {
	switch {
	case start(t, "tr"):
		x.clearTo(saidThree)
		x.insert(t)
		x.rules = "Row"
	case start(t, "td th"):
		x.rows(api.Token{Kind: api.TokenStart, Name: "tr"})
		x.byRules(t)
	case start(t, "caption col colgroup tbody tfoot thead"), stop(t, "table"):
		if x.inTable(saidThree) {
			x.clearTo(saidThree)
			x.pop()
			x.rules = "Table"
			x.byRules(t)
		}
	case stop(t, saidThree):
		if x.inTable(t.Name) {
			x.clearTo(saidThree)
			x.pop()
			x.rules = "Table"
		}
	case isSkip(t):
	default:
		x.table(t)
	}
}

func (x *said) row(t api.Token) {
	up := start(t, "caption col colgroup tbody tfoot thead tr") || stop(t, "table tr") || stop(t, saidThree) && x.inTable(t.Name)
	switch {
	case start(t, "td th"):
		x.clearTo("tr")
		x.insert(t)
		x.rules = "Cell"
		x.marker()
	case up:
		if x.inTable("tr") {
			x.clearTo("tr")
			x.pop()
			x.rules = "Rows"
			if !stop(t, "tr") {
				x.byRules(t)
			}
		}
	case isSkip(t):
	default:
		x.table(t)
	}
}

func (x *said) cell(t api.Token) {
	closeCell := func(words string) {
		x.implied("")
		x.popUpTo(words)
		x.clearMarks()
		x.rules = "Row"
	}
	switch {
	case stop(t, "td th"):
		if x.inTable(t.Name) {
			closeCell(t.Name)
		}
	case start(t, "caption col colgroup tbody td tfoot th thead tr"):
		if x.inTable("td th") {
			closeCell("td th")
			x.byRules(t)
		}
	case stop(t, "table tbody tfoot thead tr"):
		if x.inTable(t.Name) {
			closeCell("td th")
			x.byRules(t)
		}
	case isSkip(t):
	default:
		x.body(t)
	}
}
