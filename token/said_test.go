package token

import (
	"regexp"
	"strings"

	"marginalia/api"
	"marginalia/charref"
)

// A second reading of the chapter: byte by byte through states, as the tokenizer it is made after is told.

type state int

const (
	tagName state = iota
	beforeName
	attrName
	afterName
	beforeValue
	doubleQuoted
	singleQuoted
	unquoted
	afterQuoted
	strokeSeen
)

func isSpace(c byte) bool { return strings.IndexByte("\t\n\f\r ", c) >= 0 }

// asciiLower: A to Z alone, byte by byte.
func asciiLower(s string) string {
	out := []byte(s)
	for i, c := range out {
		if c >= 'A' && c <= 'Z' {
			out[i] = c + 32
		}
	}
	return string(out)
}

// tagStates reads a tag from its name on; false, if it does not end.
type tagStates struct {
	name, attr, value string
	attrs             []api.Attr
	closed            bool
}

func (m *tagStates) leave() {
	a := api.Attr{Name: asciiLower(m.attr), Value: charref.Decode(m.value, true)}
	m.attr, m.value = "", ""
	for _, b := range m.attrs {
		if b.Name == a.Name {
			return
		}
	}
	m.attrs = append(m.attrs, a)
}

// step: the state behind the byte, whether the byte is to be read again there, and whether the tag ends.
func (m *tagStates) step(st state, c byte) (to state, again, end bool) {
	switch st {
	case tagName:
		switch {
		case isSpace(c):
			return beforeName, false, false
		case c == '/':
			return strokeSeen, false, false
		case c == '>':
			return st, false, true
		}
		m.name += string([]byte{c})
		return st, false, false
	case beforeName:
		switch {
		case isSpace(c):
			return st, false, false
		case c == '/':
			return strokeSeen, false, false
		case c == '>':
			return st, false, true
		}
		m.attr = string([]byte{c})
		return attrName, false, false
	case attrName:
		if isSpace(c) || c == '/' || c == '>' {
			return afterName, true, false
		}
		if c == '=' {
			return beforeValue, false, false
		}
		m.attr += string([]byte{c})
		return st, false, false
	case afterName:
		if isSpace(c) {
			return st, false, false
		}
		if c == '=' {
			return beforeValue, false, false
		}
		m.leave()
		return beforeName, true, false
	case beforeValue:
		switch {
		case isSpace(c):
			return st, false, false
		case c == '"':
			return doubleQuoted, false, false
		case c == '\'':
			return singleQuoted, false, false
		}
		return unquoted, true, false
	case doubleQuoted, singleQuoted:
		if st == doubleQuoted && c == '"' || st == singleQuoted && c == '\'' {
			m.leave()
			return afterQuoted, false, false
		}
		m.value += string([]byte{c})
		return st, false, false
	case unquoted:
		if isSpace(c) || c == '>' {
			m.leave()
			return beforeName, true, false
		}
		m.value += string([]byte{c})
		return st, false, false
	case afterQuoted:
		return beforeName, true, false
	}
	if c == '>' { // strokeSeen
		m.closed = true
		return st, false, true
	}
	return beforeName, true, false
}

func saidTag(s string, at int, kind api.TokenKind) (api.Token, int) {
	m, st := &tagStates{}, tagName
	for i := at; i < len(s); i++ {
		for again, end := true, false; again; {
			st, again, end = m.step(st, s[i])
			if end && kind == api.TokenStop {
				return api.Token{Kind: kind, Name: asciiLower(m.name)}, i + 1
			}
			if end {
				return api.Token{Kind: kind, Name: asciiLower(m.name), Attrs: m.attrs, Closed: m.closed}, i + 1
			}
		}
	}
	return api.Token{}, len(s)
}

var (
	beginning = regexp.MustCompile(`<(?:[A-Za-z!?]|/(?s:.))`)
	startTag  = regexp.MustCompile(`^<[A-Za-z]`)
	stopTag   = regexp.MustCompile(`^</[A-Za-z]`)
	doctype   = regexp.MustCompile(`^<![dD][oO][cC][tT][yY][pP][eE]([^>]*)(?:>|$)`)
	cdata     = regexp.MustCompile(`^(?s)<!\[CDATA\[(.*?)(?:\]\]>|$)`)
	comment   = regexp.MustCompile(`^(?s)<!--(?:-?>|(.*?)(?:--!?>|(?:--!|--|-|)$))`)
	odd       = regexp.MustCompile(`^<(?:!|/)?([^>]*)(?:>|$)`)
)

// saidData: the next token in ModeData, by the chapter's words, one line each.
func saidData(s string, at int, foreign bool) (api.Token, int) {
	s0 := s
	for at < len(s0) {
		s = s0[at:]
		if x := beginning.FindStringIndex(s); x == nil {
			return api.Token{Kind: api.TokenText, Text: charref.Decode(s, false)}, len(s0)
		} else if x[0] > 0 {
			return api.Token{Kind: api.TokenText, Text: charref.Decode(s[:x[0]], false)}, at + x[0]
		}
		if startTag.MatchString(s) {
			return saidTag(s0, at+1, api.TokenStart)
		}
		if stopTag.MatchString(s) {
			return saidTag(s0, at+2, api.TokenStop)
		}
		if strings.HasPrefix(s, "</>") {
			at += 3
			continue
		}
		if x := comment.FindStringSubmatch(s); x != nil {
			return api.Token{Kind: api.TokenComment, Text: x[1]}, at + len(x[0])
		}
		if x := doctype.FindString(s); x != "" {
			return api.Token{Kind: api.TokenDoctype}, at + len(x)
		}
		if x := cdata.FindStringSubmatch(s); foreign && x != nil {
			at += len(x[0])
			if x[1] == "" {
				continue
			}
			return api.Token{Kind: api.TokenText, Text: x[1]}, at
		}
		x := odd.FindStringSubmatch(s)
		return api.Token{Kind: api.TokenComment, Text: x[1]}, at + len(x[0])
	}
	return api.Token{}, len(s0)
}

// saidRaw: the next token in ModeRaw and ModeRcdata.
func saidRaw(s string, at int, name string, decoded bool) (api.Token, int) {
	end := len(s)
	for i := len(s) - len(name) - 3; i >= at; i-- {
		behind := i + 2 + len(name)
		if s[i:i+2] == "</" && asciiLower(s[i+2:behind]) == asciiLower(name) && strings.IndexByte("\t\n\f\r />", s[behind]) >= 0 {
			end = i
		}
	}
	if end == at {
		return saidTag(s, at+2, api.TokenStop)
	}
	text := s[at:end]
	if decoded {
		text = charref.Decode(text, false)
	}
	return api.Token{Kind: api.TokenText, Text: text}, end
}

// said: what Next is to answer.
func said(s string, at int, mode api.Mode, name string, foreign bool) (api.Token, int) {
	if at < 0 || at >= len(s) {
		return api.Token{}, len(s)
	}
	switch mode {
	case api.ModePlain:
		return api.Token{Kind: api.TokenText, Text: s[at:]}, len(s)
	case api.ModeRaw, api.ModeRcdata:
		return saidRaw(s, at, name, mode == api.ModeRcdata)
	}
	return saidData(s, at, foreign)
}
