package build

import (
	"slices"

	"marginalia/api"
	"marginalia/kind"
	"marginalia/marks"
	"marginalia/opens"
)

func (b *builder) body(t api.Token) {
	switch t.Kind {
	case api.TokenText:
		b.renew()
		b.insertText(t.Text)
	case api.TokenComment:
		b.insertComment(t.Text)
	case api.TokenStart:
		b.bodyStart(t)
	case api.TokenStop:
		b.bodyStop(t)
	}
}

func (b *builder) bodyStart(t api.Token) {
	switch name := t.Name; {
	case kind.Is(api.SetSkip, name):
	case kind.Is(api.SetBlock, name):
		b.closeP()
		b.insert(t)
	case kind.Is(api.SetHeading, name):
		b.closeP()
		if is(b.current(), headings()...) {
			b.pop()
		}
		b.insert(t)
	case kind.Is(api.SetFormat, name):
		b.startFormat(t)
	case kind.Is(api.SetMarker, name):
		b.renew()
		b.insert(t)
		b.pushMarker()
	default:
		b.startNamed(t)
	}
}

// startNamed: a start tag of none of the sets that Body names.
func (b *builder) startNamed(t api.Token) {
	switch t.Name {
	case "base", "basefont", "bgsound", "link", "meta", "param", "source", "track":
		b.insertEmpty(t)
	case "area", "br", "embed", "img", "image", "input", "keygen", "wbr":
		b.renew()
		if t.Name == "image" {
			t.Name = "img"
		}
		b.insertEmpty(t)
	case "hr":
		b.closeP()
		b.insertEmpty(t)
	case "title", "textarea", "style", "script", "noframes", "iframe", "noembed", "xmp", "plaintext":
		b.startRead(t)
	case "pre", "listing", "form", "li", "dd", "dt", "table":
		b.startBlock(t)
	case "button", "option", "optgroup", "rb", "rtc", "rp", "rt":
		b.startWithin(t)
	case "svg":
		b.renew()
		b.insertForeign(api.SpaceSvg, t)
	case "math":
		b.renew()
		b.insertForeign(api.SpaceMath, t)
	default:
		b.renew()
		b.insert(t)
	}
}

// startRead: one behind whose start tag tokens are read otherwise.
func (b *builder) startRead(t api.Token) {
	switch t.Name {
	case "title":
		b.insertRead(t, api.ModeRcdata)
	case "textarea":
		b.insertRead(t, api.ModeRcdata)
		b.passFeed = true
	case "xmp":
		b.closeP()
		b.renew()
		b.insertRead(t, api.ModeRaw)
	case "plaintext":
		b.closeP()
		b.insertRead(t, api.ModePlain)
	default:
		b.insertRead(t, api.ModeRaw)
	}
}

// startBlock: one that closes a p, with what is particular to it.
func (b *builder) startBlock(t api.Token) {
	switch t.Name {
	case "form":
		if b.isOpen("form") {
			return
		}
	case "li":
		b.closeItem("li")
	case "dd", "dt":
		b.closeItem("dd", "dt")
	}
	b.closeP()
	b.insert(t)
	switch t.Name {
	case "pre", "listing":
		b.passFeed = true
	case "table":
		b.rules = inTable
	}
}

// closeItem: closes the last open item of the names, if none stands behind it in which another item may begin.
func (b *builder) closeItem(names ...string) {
	for _, o := range slices.Backward(b.open) {
		if is(o, names...) {
			b.endImplied(o.Name)
			b.popUpTo(o.Name)
			return
		}
		if opens.Special(o) && !is(o, "address", "div", "p") {
			return
		}
	}
}

// startWithin: one that ends others like it.
func (b *builder) startWithin(t api.Token) {
	switch t.Name {
	case "button":
		if b.inScope(api.ScopeAll, "button") {
			b.endImplied("")
			b.popUpTo("button")
		}
		b.renew()
	case "option", "optgroup":
		if is(b.current(), "option") {
			b.pop()
		}
		b.renew()
	case "rb", "rtc":
		b.endRuby("")
	case "rp", "rt":
		b.endRuby("rtc")
	}
	b.insert(t)
}

// endRuby: ends what is implied, but the name except, within a ruby.
func (b *builder) endRuby(except string) {
	if b.inScope(api.ScopeAll, "ruby") {
		b.endImplied(except)
	}
}

func (b *builder) startFormat(t api.Token) {
	switch t.Name {
	case "a":
		b.endLink()
		b.renew()
	case "nobr":
		b.renew()
		if b.inScope(api.ScopeAll, "nobr") {
			b.adopt("nobr")
			b.renew()
		}
	default:
		b.renew()
	}
	b.insertMarked(t)
}

// endLink: ends the last a that is marked, wherever it stands.
func (b *builder) endLink() {
	at := marks.Last(b.marks, "a")
	if at == none {
		return
	}
	id := b.marks[at].Id
	b.adopt("a")
	b.marks = marks.Drop(b.marks, id)
	b.unopen(id)
}

// unopen: the one of that Id is open no more, wherever it stood.
func (b *builder) unopen(id int) {
	if at := opens.Find(b.open, id); at != none {
		b.open = slices.Delete(b.open, at, at+1)
	}
}

func headings() []string {
	return []string{"h1", "h2", "h3", "h4", "h5", "h6"}
}

func (b *builder) bodyStop(t api.Token) {
	switch name := t.Name; {
	case kind.Is(api.SetSkip, name):
	case name == "p":
		if !b.inScope(api.ScopeButton, "p") {
			b.insertBare("p")
		}
		b.closeP()
	case name == "li":
		b.end(api.ScopeList, name, name)
	case name == "dd", name == "dt":
		b.end(api.ScopeAll, name, name)
	case kind.Is(api.SetHeading, name):
		b.end(api.ScopeAll, "", headings()...)
	case kind.Is(api.SetBlock, name), name == "button", name == "form", name == "listing", name == "pre":
		b.end(api.ScopeAll, "", name)
	case kind.Is(api.SetFormat, name):
		b.adopt(name)
	case kind.Is(api.SetMarker, name):
		if b.end(api.ScopeAll, "", name) {
			b.clearMarks()
		}
	case name == "br":
		b.bodyStart(api.Token{Kind: api.TokenStart, Name: "br"})
	default:
		b.endOther(name)
	}
}

// end: if one of the names is in scope, ends what is implied, but the name except, and pops up to one of the names; tells whether one was.
func (b *builder) end(scope api.Scope, except string, names ...string) bool {
	if !b.inScope(scope, names...) {
		return false
	}
	b.endImplied(except)
	b.popUpTo(names...)
	return true
}

// endOther: ends the last open one of that name, if no special one stands behind it.
func (b *builder) endOther(name string) {
	for at, o := range slices.Backward(b.open) {
		if is(o, name) {
			b.endImplied(name)
			b.keep(at)
			return
		}
		if opens.Special(o) {
			return
		}
	}
}
