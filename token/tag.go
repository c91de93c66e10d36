package token

import (
	"strings"

	"marginalia/api"
	"marginalia/charref"
	"marginalia/kind"
)

// The bytes that end a tag's name.
const nameEnds byteSet = " />"

// start: a start tag, from its name on; TokenEnd, at the text's end, if it does not end.
func (r *reader) start() api.Token {
	t := api.Token{Kind: api.TokenStart, Name: kind.Lower(r.run(nameEnds.has))}
	seen := map[string]struct{}{}
	for {
		gap := r.run(byteSet(" /").lacks)
		if r.done() {
			return api.Token{}
		}
		if r.skip(">") {
			t.Closed = strings.HasSuffix(gap, "/")
			return t
		}
		a := r.attr()
		if _, ok := seen[a.Name]; !ok {
			seen[a.Name] = struct{}{}
			t.Attrs = append(t.Attrs, a)
		}
	}
}

// stop: an end tag, from its name on; TokenEnd, at the text's end, if it does not end.
func (r *reader) stop() api.Token {
	t := r.start()
	if t.Kind == api.TokenEnd {
		return t
	}
	return api.Token{Kind: api.TokenStop, Name: t.Name}
}

// attr: an attribute, whose first byte stands there.
func (r *reader) attr() api.Attr {
	// The first byte is the name's whatever it is: a name may begin with the sign that ends others.
	name := r.take(r.at + 1)
	name += r.run(byteSet(" />=").has)
	a := api.Attr{Name: kind.Lower(name)}
	r.spaces()
	if r.skip("=") {
		r.spaces()
		a.Value = charref.Decode(r.value(), true)
	}
	return a
}

func (r *reader) spaces() { r.run(byteSet(" ").lacks) }

// value: an attribute's value, as it stands.
func (r *reader) value() string {
	switch {
	case r.skip(`"`):
		return r.quoted(`"`)
	case r.skip("'"):
		return r.quoted("'")
	}
	return r.run(byteSet(" >").has)
}

// quoted: a value up to its quote, which is passed too.
func (r *reader) quoted(quote byteSet) string {
	text := r.run(quote.has)
	r.skip(string(quote))
	return text
}
