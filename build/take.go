package build

import (
	"slices"
	"strings"

	"marginalia/api"
	"marginalia/kind"
	"marginalia/opens"
	"marginalia/token"
)

// takeAll: takes a text's tokens, up to its end or the first error.
func (b *builder) takeAll(s string) {
	for at := 0; b.err == api.OK; {
		var t api.Token
		t, at = token.Next(s, at, b.mode, b.name, foreign(b.current()))
		if t.Kind == api.TokenEnd {
			return
		}
		b.take(t)
	}
}

func (b *builder) take(t api.Token) {
	passed := b.passFeed
	b.passFeed = false
	if passed && t.Kind == api.TokenText {
		t.Text = strings.TrimPrefix(t.Text, "\n")
		if t.Text == "" {
			return
		}
	}
	switch {
	case t.Kind == api.TokenDoctype:
	case b.mode == api.ModeRaw, b.mode == api.ModeRcdata:
		b.takeRaw(t)
	case b.isForeign(t):
		b.takeForeign(t)
	default:
		b.takeByRules(t)
	}
}

// takeRaw: takes what is read up to an end tag.
func (b *builder) takeRaw(t api.Token) {
	if t.Kind == api.TokenText {
		b.insertText(t.Text)
		return
	}
	b.pop()
	b.mode, b.name = api.ModeData, ""
}

// takeByRules: takes a token, for the first time or again, by the rules that are set.
func (b *builder) takeByRules(t api.Token) {
	if b.err != api.OK {
		return
	}
	switch b.rules {
	case inTable:
		b.table(t)
	case inCaption:
		b.caption(t)
	case inGroup:
		b.group(t)
	case inRows:
		b.rows(t)
	case inRow:
		b.row(t)
	case inCell:
		b.cell(t)
	default:
		b.body(t)
	}
}

// whileFostered: takes a token as it is handed on, and what is inserted meanwhile is fostered.
func (b *builder) whileFostered(take func(t api.Token), t api.Token) {
	b.fostered = true
	take(t)
	b.fostered = false
}

// isForeign: is a token taken as one of another language than HTML?
func (b *builder) isForeign(t api.Token) bool {
	o := b.current()
	if t.Kind == api.TokenText || t.Kind == api.TokenStart {
		return foreign(o) && !opens.Point(o)
	}
	return foreign(o)
}

func (b *builder) takeForeign(t api.Token) {
	switch {
	case t.Kind == api.TokenText:
		b.insertText(t.Text)
	case t.Kind == api.TokenComment:
		b.insertComment(t.Text)
	case breaksOut(t):
		for foreign(b.current()) && !opens.Point(b.current()) {
			b.pop()
		}
		b.takeByRules(t)
	case t.Kind == api.TokenStart:
		b.insertForeign(b.current().Space, t)
	default:
		b.endForeign(t)
	}
}

// breaksOut: does a tag end what is of another language?
func breaksOut(t api.Token) bool {
	switch {
	case isStop(t, "br", "p"):
		return true
	case isStart(t, "font"):
		return hasAttr(t, "color") || hasAttr(t, "face") || hasAttr(t, "size")
	}
	return t.Kind == api.TokenStart && kind.Is(api.SetBreak, t.Name)
}

func (b *builder) endForeign(t api.Token) {
	for at, o := range slices.Backward(b.open) {
		if !foreign(o) {
			b.takeByRules(t)
			return
		}
		if o.Name == t.Name {
			b.keep(at)
			return
		}
	}
}

func isStart(t api.Token, names ...string) bool {
	return t.Kind == api.TokenStart && slices.Contains(names, t.Name)
}

func isStop(t api.Token, names ...string) bool {
	return t.Kind == api.TokenStop && slices.Contains(names, t.Name)
}

// isSkipped: is it an end tag that is passed over?
func isSkipped(t api.Token) bool {
	return t.Kind == api.TokenStop && kind.Is(api.SetSkip, t.Name)
}

func hasAttr(t api.Token, name string) bool {
	_, ok := token.Get(t.Attrs, name)
	return ok
}
