package token

import (
	"strings"

	"marginalia/kind"
)

// reader goes through a text from a place on, which is none beyond its end.
type reader struct {
	text string
	at   int
}

func (r *reader) done() bool { return r.at == len(r.text) }

func (r *reader) rest() string { return r.text[r.at:] }

// skip: passes the word and tells true, if it stands there.
func (r *reader) skip(word string) bool {
	if !strings.HasPrefix(r.rest(), word) {
		return false
	}
	r.at += len(word)
	return true
}

// take: passes all bytes ahead of the place end, and tells them.
func (r *reader) take(end int) string {
	from := r.at
	r.at = end
	return r.text[from:end]
}

// run: passes all bytes ahead of the first one that ends them, and tells them.
func (r *reader) run(ends func(c byte) bool) string {
	end := r.at
	for end < len(r.text) && !ends(r.text[end]) {
		end++
	}
	return r.take(end)
}

// byteSet is a set of bytes; the blank in it stands for every space.
type byteSet string

// has: is the byte one of the set?
func (b byteSet) has(c byte) bool {
	if kind.Space(c) {
		c = ' '
	}
	return strings.IndexByte(string(b), c) >= 0
}

// lacks: is the byte none of the set?
func (b byteSet) lacks(c byte) bool { return !b.has(c) }

// beginsLike: does s begin with the word, which is in small letters, in letters of any case?
func beginsLike(s, word string) bool {
	return len(s) >= len(word) && kind.Lower(s[:len(word)]) == word
}
