package arena

import (
	"slices"

	"marginalia/api"
)

// place is what all nodes have: what they are, and where they stand.
type place struct {
	kind   api.NodeKind
	parent int
	kids   []int
}

// holdsKids: may it have kids?
func (p *place) holdsKids() bool {
	return p.kind == api.NodeRoot || p.kind == api.NodeElement
}

// placeOf: which of its kids that one is.
func (p *place) placeOf(kid int) int {
	return slices.Index(p.kids, kid)
}

// drop: that kid is none any more.
func (p *place) drop(kid int) {
	at := p.placeOf(kid)
	p.kids = slices.Delete(p.kids, at, at+1)
}

// node is what is kept of one: beside its place an element's space, name and attributes, or the text of a text or a comment.
type node struct {
	place
	space api.Space
	name  string
	attrs []api.Attr
	text  []byte // not a string: Add would copy a long text for each byte more
}

// alone: the node without what is within it.
func (n *node) alone() api.Node {
	return api.Node{Kind: n.kind, Space: n.space, Name: n.name, Attrs: ownCopy(n.attrs), Text: string(n.text)}
}
