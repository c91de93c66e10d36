package build

import (
	"slices"

	"marginalia/api"
	"marginalia/marks"
	"marginalia/opens"
)

const (
	mostRounds = 8 // of one adoption
	mostCopies = 3 // elements between whose formatting lives on
)

// adopt: ends formatting of that name, also where it crosses blocks.
func (b *builder) adopt(name string) {
	if is(b.current(), name) && marks.Find(b.marks, b.current().Id) == none {
		b.pop()
		return
	}
	for range mostRounds {
		if !b.adoptOnce(name) {
			return
		}
	}
}

// adoptOnce: one round; tells whether there is to be another one.
func (b *builder) adoptOnce(name string) bool {
	at := marks.Last(b.marks, name)
	if at == none {
		b.endOther(name)
		return false
	}
	f := b.marks[at]
	from := opens.Find(b.open, f.Id)
	if from == none {
		b.marks = marks.Drop(b.marks, f.Id)
		return false
	}
	behind := b.open[from+1:]
	if slices.ContainsFunc(behind, endsScope) {
		return false
	}
	special := slices.IndexFunc(behind, opens.Special)
	if special == none {
		b.keep(from)
		b.marks = marks.Drop(b.marks, f.Id)
		return false
	}
	b.moveInto(f, from, from+1+special)
	return b.err == api.OK
}

func endsScope(o api.Open) bool { return opens.Ends(o, api.ScopeAll) }

// moveInto: the formatting f, which is open at the place from, ends ahead of the special one at the place to, and begins anew within it.
func (b *builder) moveInto(f api.Mark, from, to int) {
	target, special := b.open[from-1], b.open[to]
	last, bookmark := b.copyBetween(from, to, marks.Find(b.marks, f.Id))
	if b.err != api.OK {
		return
	}
	b.put(b.placeFor(target), last)
	anew := b.made(b.tree.Copy(f.Id))
	b.tree.Move(special.Id, anew)
	b.tree.Append(special.Id, anew)

	bookmark = b.dropMark(f.Id, bookmark)
	b.marks = marks.Insert(b.marks, bookmark, api.Mark{Id: anew, Name: f.Name, Attrs: f.Attrs})
	o := b.open[from]
	o.Id = anew
	b.unopen(f.Id)
	b.open = slices.Insert(b.open, opens.Find(b.open, special.Id)+1, o)
}

// copyBetween: of those that are open between two places the marked ones live on as copies, each within the next; tells the node that holds all of them (the special one at the place to, if there are none), and the bookmark.
func (b *builder) copyBetween(from, to, bookmark int) (int, int) {
	special := b.open[to].Id
	last := special
	for at := to - 1; at > from && b.err == api.OK; at-- {
		id := b.open[at].Id
		if to-at > mostCopies {
			bookmark = b.dropMark(id, bookmark)
		}
		mark := marks.Find(b.marks, id)
		if mark == none {
			b.unopen(id)
			continue
		}
		anew := b.made(b.tree.Copy(id))
		b.open[at].Id, b.marks[mark].Id = anew, anew
		if last == special {
			bookmark = mark + 1
		}
		b.tree.Append(anew, last)
		last = anew
	}
	return last, bookmark
}

// dropMark: the mark of that Id goes, if there is one; tells where the bookmark is then.
func (b *builder) dropMark(id, bookmark int) int {
	at := marks.Find(b.marks, id)
	if at == none {
		return bookmark
	}
	b.marks = marks.Drop(b.marks, id)
	if at < bookmark {
		return bookmark - 1
	}
	return bookmark
}
