// Package input is layer 1: see shared/doc/01-input.md.
package input

import (
	"strings"
	"unicode/utf8"
)

const (
	mark        = "\xEF\xBB\xBF"
	replacement = "\xEF\xBF\xBD"
)

// Decode: bytes as a right text.
func Decode(b []byte) string {
	s := strings.TrimPrefix(string(b), mark)
	var out strings.Builder
	end := 0
	for i, r := range s {
		if i < end { // range goes through a bad piece byte by byte
			continue
		}
		end = i + pieceLength(s[i:])
		out.WriteRune(r) // of a bad piece, r is already the rune of replacement
	}
	return out.String()
}

// Lines: line feeds alone.
func Lines(s string) string {
	var out strings.Builder
	start := 0
	for i, r := range s {
		if r != '\r' {
			continue
		}
		out.WriteString(s[start:i]) // as it stands: s need not be right
		if !strings.HasPrefix(s[i+1:], "\n") {
			out.WriteByte('\n')
		}
		start = i + 1
	}
	out.WriteString(s[start:])
	return out.String()
}

// Text: bytes as a right text of lines, without noughts.
func Text(b []byte) string {
	// The noughts go last, for one between a carriage return and a line feed keeps them two lines.
	return strings.ReplaceAll(Lines(Decode(b)), "\x00", "")
}

// Valid: is a text right?
func Valid(s string) bool {
	for i, r := range s {
		// The rune that range tells of a bad byte may also stand in the text itself.
		if r == utf8.RuneError && !strings.HasPrefix(s[i:], replacement) {
			return false
		}
	}
	return true
}

// Count: how many pieces a text has.
func Count(s string) int {
	n, end := 0, 0
	for i := range s {
		if i < end { // range goes through a bad piece byte by byte
			continue
		}
		end = i + pieceLength(s[i:])
		n++
	}
	return n
}

// pieceLength: how many bytes the first piece of s has, good or bad; s is not empty.
func pieceLength(s string) int {
	more, low, high := behindLead(s[0])
	n := 1
	for n <= more && n < len(s) && low <= s[n] && s[n] <= high {
		n++
		low, high = 0x80, 0xBF // only the second byte's bounds hang on the first one
	}
	return n
}

// behindLead: how many bytes stand behind the first byte of a good sequence, and from which to which the second one may be.
func behindLead(lead byte) (more int, low, high byte) {
	switch {
	case lead < 0xC2 || lead > 0xF4:
		return 0, 0, 0
	case lead <= 0xDF:
		return 1, 0x80, 0xBF
	case lead == 0xE0:
		return 2, 0xA0, 0xBF
	case lead == 0xED:
		return 2, 0x80, 0x9F
	case lead <= 0xEF:
		return 2, 0x80, 0xBF
	case lead == 0xF0:
		return 3, 0x90, 0xBF
	case lead == 0xF4:
		return 3, 0x80, 0x8F
	}
	return 3, 0x80, 0xBF
}
