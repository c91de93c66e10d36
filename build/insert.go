package build

import (
	"slices"

	"marginalia/api"
	"marginalia/marks"
	"marginalia/opens"
)

// place is where a node is put: right ahead of the kid before of parent or, if that is none, behind all its kids.
type place struct {
	parent int
	before int
}

// placeFor: the place for a target.
func (b *builder) placeFor(target api.Open) place {
	if !b.fostered || !is(target, "table", "tbody", "tfoot", "thead", "tr") {
		return behindAll(target.Id)
	}
	at := opens.Cut(b.open, []string{"table"})
	if at == none {
		return behindAll(root)
	}
	table := b.open[at].Id
	if parent := b.tree.Parent(table); parent != none {
		return place{parent: parent, before: table}
	}
	return behindAll(b.open[at-1].Id)
}

func behindAll(parent int) place { return place{parent: parent, before: none} }

// neighbour: the node that stands right ahead of the place.
func (b *builder) neighbour(p place) int {
	kids := b.tree.Kids(p.parent)
	if p.before != none {
		kids = kids[:slices.Index(kids, p.before)]
	}
	if len(kids) == 0 {
		return none
	}
	return kids[len(kids)-1]
}

func (b *builder) put(p place, n int) {
	if p.before == none {
		b.tree.Append(p.parent, n)
	} else {
		b.tree.Before(p.before, n)
	}
}

// made: the number of a node that was to be made; none is made where there are too many.
func (b *builder) made(n int) int {
	if n == none {
		b.fail(api.ErrLarge)
	}
	return n
}

func (b *builder) insertText(s string) {
	p := b.placeFor(b.current())
	// Asked by adding, which is refused where no text stands.
	if b.tree.Add(b.neighbour(p), s) != api.OK {
		b.put(p, b.made(b.tree.Text(s)))
	}
}

func (b *builder) insertComment(s string) {
	b.put(b.placeFor(b.current()), b.made(b.tree.Comment(s)))
}

// insertElement: an element at the place, which is the current one from then on: its number.
func (b *builder) insertElement(space api.Space, name string, attrs []api.Attr) int {
	if len(b.open) > api.MaxDeep {
		b.fail(api.ErrDeep)
		return none
	}
	n := b.made(b.tree.Element(space, name, attrs))
	b.put(b.placeFor(b.current()), n)
	b.open = append(b.open, api.Open{Id: n, Space: space, Name: name})
	return n
}

// insert: a start tag's element.
func (b *builder) insert(t api.Token) {
	b.insertElement(api.SpaceHtml, t.Name, t.Attrs)
}

// insertBare: an element that no tag was written for.
func (b *builder) insertBare(name string) {
	b.insertElement(api.SpaceHtml, name, nil)
}

// insertEmpty: a start tag's element, in which nothing can be.
func (b *builder) insertEmpty(t api.Token) {
	b.insert(t)
	b.pop()
}

// insertForeign: a start tag's element of that space.
func (b *builder) insertForeign(space api.Space, t api.Token) {
	b.insertElement(space, t.Name, t.Attrs)
	if t.Closed {
		b.pop()
	}
}

// insertRead: a start tag's element, behind which tokens are read in that mode.
func (b *builder) insertRead(t api.Token, mode api.Mode) {
	b.insert(t)
	b.mode, b.name = mode, t.Name
}

// insertMarked: a start tag's element, and a mark of it.
func (b *builder) insertMarked(t api.Token) {
	n := b.insertElement(api.SpaceHtml, t.Name, t.Attrs)
	b.marks = marks.Push(b.marks, api.Mark{Id: n, Name: t.Name, Attrs: t.Attrs})
}

func (b *builder) pushMarker() {
	b.marks = marks.Push(b.marks, api.Mark{})
}

func (b *builder) clearMarks() { b.marks = marks.Clear(b.marks) }
