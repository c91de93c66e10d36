package build

import (
	"marginalia/api"
	"marginalia/kind"
)

// The second reading of Body and of what it does to formatting.

const saidHeadings = "h1 h2 h3 h4 h5 h6"

func (x *said) body(t api.Token) {
	switch t.Kind {
	case api.TokenText:
		x.renew()
		x.text(t.Text)
	case api.TokenComment:
		x.comment(t.Text)
	case api.TokenStart:
		x.bodyStart(t)
	case api.TokenStop:
		x.bodyStop(t)
	}
}

func (x *said) read(t api.Token, mode api.Mode) {
	x.insert(t)
	x.mode, x.modeName = mode, t.Name
}

// bodyStart: the first table, row by row.
func (x *said) bodyStart(t api.Token) {
	switch n := t.Name; {
	case kind.Is(api.SetSkip, n):
	case among("base basefont bgsound link meta param source track", n):
		x.insertPopped(t)
	case among("title textarea", n):
		x.read(t, api.ModeRcdata)
		x.feed = n == "textarea"
	case among("style script noframes iframe noembed", n):
		x.read(t, api.ModeRaw)
	case n == "xmp":
		x.closeP()
		x.renew()
		x.read(t, api.ModeRaw)
	case n == "plaintext":
		x.closeP()
		x.read(t, api.ModePlain)
	case kind.Is(api.SetBlock, n):
		x.closeP()
		x.insert(t)
	case kind.Is(api.SetHeading, n):
		x.closeP()
		if x.current().is(saidHeadings) {
			x.pop()
		}
		x.insert(t)
	case among("pre listing", n):
		x.closeP()
		x.insert(t)
		x.feed = true
	case n == "form":
		if !x.isOpen("form") {
			x.closeP()
			x.insert(t)
		}
	case n == "li":
		x.item("li")
		x.closeP()
		x.insert(t)
	case among("dd dt", n):
		x.item("dd dt")
		x.closeP()
		x.insert(t)
	case n == "button":
		if x.inAll("button") {
			x.implied("")
			x.popUpTo("button")
		}
		x.renew()
		x.insert(t)
	default:
		x.bodyStartMore(t)
	}
}

func (x *said) bodyStartMore(t api.Token) {
	switch n := t.Name; {
	case n == "a":
		if m := x.lastMark("a"); m != nil {
			node := m.node
			x.adopt("a")
			x.markGoes(m)
			x.openWithout(node)
		}
		x.renew()
		x.mark(x.insert(t))
	case n == "nobr":
		x.renew()
		if x.inAll("nobr") {
			x.adopt("nobr")
			x.renew()
		}
		x.mark(x.insert(t))
	case kind.Is(api.SetFormat, n):
		x.renew()
		x.mark(x.insert(t))
	case kind.Is(api.SetMarker, n):
		x.renew()
		x.insert(t)
		x.marker()
	case n == "table":
		x.closeP()
		x.insert(t)
		x.rules = "Table"
	case among("area br embed img input keygen wbr", n):
		x.renew()
		x.insertPopped(t)
	case n == "image":
		x.renew()
		x.element(0, "img", t.Attrs)
		x.pop()
	case n == "hr":
		x.closeP()
		x.insertPopped(t)
	case among("option optgroup", n):
		if x.current().is("option") {
			x.pop()
		}
		x.renew()
		x.insert(t)
	case among("rb rtc rp rt", n):
		if x.inAll("ruby") && among("rb rtc", n) {
			x.implied("")
		} else if x.inAll("ruby") {
			x.implied("rtc")
		}
		x.insert(t)
	case among("svg math", n):
		x.renew()
		x.element(map[string]api.Space{"svg": 1, "math": 2}[n], n, t.Attrs)
		if t.Closed {
			x.pop()
		}
	default:
		x.renew()
		x.insert(t)
	}
}

func (x *said) item(words string) {
	for i := len(x.open) - 1; i >= 0; i-- {
		n := x.open[i]
		if n.is(words) {
			x.implied(n.name)
			x.popUpTo(n.name)
			return
		}
		if n.special() && !n.is("address div p") {
			return
		}
	}
}

// bodyStop: the second table, row by row.
func (x *said) bodyStop(t api.Token) {
	n := t.Name
	in, words := false, n
	switch {
	case kind.Is(api.SetSkip, n):
		return
	case n == "p":
		if !x.inButton("p") {
			x.bare("p")
		}
		x.closeP()
		return
	case n == "li":
		if x.inList("li") {
			x.implied("li")
			x.popUpTo("li")
		}
		return
	case among("dd dt", n):
		if x.inAll(n) {
			x.implied(n)
			x.popUpTo(n)
		}
		return
	case kind.Is(api.SetHeading, n):
		in, words = x.inAll(saidHeadings), saidHeadings
	case kind.Is(api.SetBlock, n), among("button form listing pre", n), kind.Is(api.SetMarker, n):
		in = x.inAll(n)
	case kind.Is(api.SetFormat, n):
		x.adopt(n)
		return
	case n == "br":
		x.bodyStart(api.Token{Kind: api.TokenStart, Name: "br"})
		return
	default:
		x.other(n)
		return
	}
	if in {
		x.implied("")
		x.popUpTo(words)
		if kind.Is(api.SetMarker, n) {
			x.clearMarks()
		}
	}
}

func (x *said) other(name string) {
	for i := len(x.open) - 1; i >= 0; i-- {
		n := x.open[i]
		if n.is(name) {
			x.implied(name)
			x.open = x.open[:i]
			return
		}
		if n.special() {
			return
		}
	}
}

func (x *said) adopt(name string) {
	if n := x.current(); n.is(name) && x.markPlace(n) < 0 {
		x.pop()
		return
	}
	for i := 0; i < 8; i++ {
		f := x.lastMark(name)
		if f == nil {
			x.other(name)
			return
		}
		if !x.openHas(f.node) {
			x.markGoes(f)
			return
		}
		at := x.openPlace(f.node)
		var b *saidNode
		for _, n := range x.open[at+1:] {
			if n.is(saidAll) || n.point() {
				return
			}
			if b == nil && n.special() {
				b = n
			}
		}
		if b == nil {
			x.open = x.open[:at]
			x.markGoes(f)
			return
		}
		x.adoptInto(f, b, x.open[at-1])
	}
}

func (x *said) copyOf(n *saidNode) *saidNode {
	return x.node(saidNode{kind: api.NodeElement, space: n.space, name: n.name, attrs: n.attrs})
}

// adoptInto: a round from its third step on. The bookmark is a mark that stands in the list for its place.
func (x *said) adoptInto(f *saidMark, b, c *saidNode) {
	bookmark := &saidMark{name: "bookmark", node: &saidNode{}}
	x.marks = insertMark(x.marks, x.markPlace(f.node), bookmark)
	l := b
	between := append([]*saidNode{}, x.open[x.openPlace(f.node)+1:x.openPlace(b)]...)
	for count := 1; count <= len(between); count++ {
		n := between[len(between)-count]
		if i := x.markPlace(n); count >= 4 && i >= 0 {
			x.markGoes(x.marks[i])
		}
		i := x.markPlace(n)
		if i < 0 {
			x.openWithout(n)
			continue
		}
		m := x.marks[i]
		anew := x.copyOf(n)
		x.open[x.openPlace(n)] = anew
		m.node = anew
		if l == b {
			x.markGoes(bookmark)
			x.marks = insertMark(x.marks, x.markPlace(anew)+1, bookmark)
		}
		l.takeOut()
		l.putAt(anew, 0)
		l = anew
	}
	l.takeOut()
	l.putAt(x.place(c))
	anew := x.copyOf(f.node)
	for _, k := range b.kids {
		k.parent = anew
	}
	anew.kids, b.kids = b.kids, nil
	anew.putAt(b, 0)
	for i, m := range x.marks {
		if m == bookmark {
			x.marks[i] = &saidMark{node: anew, name: f.name, attrs: f.attrs}
		}
	}
	x.markGoes(f)
	x.openWithout(f.node)
	at := x.openPlace(b) + 1
	x.open = append(append(append([]*saidNode{}, x.open[:at]...), anew), x.open[at:]...)
}

func insertMark(l []*saidMark, at int, m *saidMark) []*saidMark {
	return append(append(append([]*saidMark{}, l[:at]...), m), l[at:]...)
}
