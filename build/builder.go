package build

import (
	"slices"

	"marginalia/api"
	"marginalia/arena"
	"marginalia/marks"
	"marginalia/opens"
)

// rules says by which rules a token is taken.
type rules int

const (
	inBody rules = iota
	inTable
	inCaption
	inGroup
	inRows
	inRow
	inCell
)

const (
	root = 0  // the root's number in an arena
	none = -1 // the place or number that is told where there is none
)

// builder is what is kept while a fragment is built.
type builder struct {
	tree     *arena.Tree
	open     []api.Open // the first one stands for the root, and never goes
	marks    []api.Mark
	rules    rules
	mode     api.Mode
	name     string // whose end tag ends a mode
	fostered bool
	passFeed bool
	err      api.Errno // the first one: what is done behind it counts for nothing
}

func newBuilder() *builder {
	return &builder{
		tree: arena.New(),
		open: []api.Open{{Id: root, Space: api.SpaceHtml, Name: "html"}},
	}
}

// fail: the error is the one that is told, if it is the first.
func (b *builder) fail(e api.Errno) {
	if b.err == api.OK {
		b.err = e
	}
}

// is: is an open one of SpaceHtml, and of one of the names?
func is(o api.Open, names ...string) bool {
	return !foreign(o) && slices.Contains(names, o.Name)
}

func foreign(o api.Open) bool { return o.Space != api.SpaceHtml }

func (b *builder) current() api.Open { return b.open[len(b.open)-1] }

// isOpen: is one of that name open, in any scope?
func (b *builder) isOpen(name string) bool {
	return opens.Cut(b.open, []string{name}) != none
}

func (b *builder) inScope(scope api.Scope, names ...string) bool {
	return opens.Has(b.open, names, scope)
}

// keep: so many stay open; the root's in any case.
func (b *builder) keep(many int) {
	b.open = b.open[:max(many, 1)]
}

func (b *builder) pop() { b.keep(len(b.open) - 1) }

func (b *builder) popUpTo(names ...string) {
	if many := opens.Cut(b.open, names); many != none {
		b.keep(many)
	}
}

// endImplied: ends what is implied, but the name except.
func (b *builder) endImplied(except string) {
	b.keep(opens.Implied(b.open, except))
}

func (b *builder) closeP() {
	if b.inScope(api.ScopeButton, "p") {
		b.endImplied("p")
		b.popUpTo("p")
	}
}

// clearTo: pops down to one of the names, or to the root's.
func (b *builder) clearTo(names ...string) {
	for len(b.open) > 1 && !is(b.current(), names...) {
		b.pop()
	}
}

// renew: makes the formatting anew that was cut off.
func (b *builder) renew() {
	ids := make([]int, 0, len(b.open))
	for _, o := range b.open {
		ids = append(ids, o.Id)
	}
	for i := marks.Renew(b.marks, ids); i < len(b.marks); i++ {
		m := b.marks[i]
		b.marks[i].Id = b.insertElement(api.SpaceHtml, m.Name, m.Attrs)
	}
}

// resetRules: the rules by what is open.
func (b *builder) resetRules() {
	b.rules = inBody
	for _, o := range slices.Backward(b.open) {
		if r := rulesWithin(o); r != inBody {
			b.rules = r
			return
		}
	}
}

// rulesWithin: the rules that an open one sets; inBody, if it sets none.
func rulesWithin(o api.Open) rules {
	switch {
	case is(o, "td", "th"):
		return inCell
	case is(o, "tr"):
		return inRow
	case is(o, "tbody", "tfoot", "thead"):
		return inRows
	case is(o, "caption"):
		return inCaption
	case is(o, "colgroup"):
		return inGroup
	case is(o, "table"):
		return inTable
	}
	return inBody
}
