package print

import (
	"math/rand/v2"
	"strings"
	"testing"

	"marginalia/charref"
)

// escapes: a text is escaped as is said, within no attribute and in one, by the program and by the second reading.
func escapes(t *testing.T, s, text, attr string) {
	t.Helper()
	if got := Escape(s, false); got != text {
		t.Errorf("Escape(%q, false): %q, not %q", s, got, text)
	}
	if got := Escape(s, true); got != attr {
		t.Errorf("Escape(%q, true): %q, not %q", s, got, attr)
	}
	if saidEscape(s, false) != text || saidEscape(s, true) != attr {
		t.Errorf("the second reading has %q as %q and %q", s, saidEscape(s, false), saidEscape(s, true))
	}
	checkBack(t, s)
}

// checkBack: P9.2 of a text.
func checkBack(t *testing.T, s string) {
	t.Helper()
	for _, attr := range []bool{false, true} {
		e := Escape(s, attr)
		if got := charref.Decode(e, attr); got != s {
			t.Errorf("%q, escaped (%v) as %q, is decoded as %q", s, attr, e, got)
		}
		if strings.Contains(e, "<") || attr && strings.Contains(e, "\"") {
			t.Errorf("%q, escaped (%v), has a sign that it must not have: %q", s, attr, e)
		}
	}
}

// P9.1: each of the five signs, wherever it stands.
func TestEscapeSigns(t *testing.T) {
	for _, x := range [][3]string{
		{"&", "&amp;", "&amp;"},
		{"\u00A0", "&nbsp;", "&nbsp;"},
		{"<", "&lt;", "&lt;"},
		{">", "&gt;", "&gt;"},
		{"\"", "\"", "&quot;"},
	} {
		for _, form := range []string{"S", "Sx", "xS", "xSy", "SS", "SxS", "SSS", "xSSy", " S ", "\u00e4S\u00e4", "\xFFS\xFF", "\x00S\x00", "Samp;", "S;", "#S", "\xC2S", "S\xA0"} {
			put := func(sign string) string { return strings.ReplaceAll(form, "S", sign) }
			escapes(t, put(x[0]), put(x[1]), put(x[2]))
		}
	}
	escapes(t, "&\u00A0<>\"", "&amp;&nbsp;&lt;&gt;\"", "&amp;&nbsp;&lt;&gt;&quot;")
	escapes(t, "\"><\u00A0&", "\"&gt;&lt;&nbsp;&amp;", "&quot;&gt;&lt;&nbsp;&amp;")
}

// P9.1: C2 and A0 that are no U+00A0, and one that stands among them.
func TestEscapeHalves(t *testing.T) {
	for _, x := range [][2]string{
		{"\xC2", "\xC2"},
		{"\xA0", "\xA0"},
		{"\xC2\xA0", "&nbsp;"},
		{"\xA0\xC2", "\xA0\xC2"},
		{"x\xC2", "x\xC2"},
		{"\xA0x", "\xA0x"},
		{"\xC2x\xA0", "\xC2x\xA0"},
		{"\xC2\xC2", "\xC2\xC2"},
		{"\xC2\xC2\xA0", "\xC2&nbsp;"},
		{"\xC2\xA0\xA0", "&nbsp;\xA0"},
		{"\xC2\xA0\xC2", "&nbsp;\xC2"},
		{"\xA0\xC2\xA0", "\xA0&nbsp;"},
		{"\xC2\xA0\xC2\xA0", "&nbsp;&nbsp;"},
		{"\xC2\xC2\xA0\xA0", "\xC2&nbsp;\xA0"},
		{"\xC2\x9F\xC2\xA1\xC3\xA0", "\xC2\x9F\xC2\xA1\xC3\xA0"},
		{"\xC2&\xA0", "\xC2&amp;\xA0"},
		{"\xE1\x82\xA0", "\xE1\x82\xA0"},
		// Bytes count, not letters.
		{"\xF0\xC2\xA0", "\xF0&nbsp;"},
		{"\xE2\x80\xAF\u2007", "\xE2\x80\xAF\u2007"},
	} {
		escapes(t, x[0], x[1], x[1])
	}
}

// P9.1: what is written as it is, and what is escaped already.
func TestEscapeOthers(t *testing.T) {
	for _, s := range []string{"", " ", "x", "a b", "'", "/", "=", ";", "#", "amp;", "\n\r\t\f", "\x00", "\x7F", "\x80", "\xFF\xFE", "\xED\xA0\x80", "\xF4\x90", "\u00e4\u20ac\U0001F600", "\uFEFF", "\uFFFD"} {
		escapes(t, s, s, s)
	}
	for c := range 256 {
		s := string([]byte{byte(c)})
		if !strings.Contains("&<>\"", s) {
			escapes(t, s, s, s)
		}
	}
	escapes(t, "&amp;", "&amp;amp;", "&amp;amp;")
	escapes(t, "&amp;amp;", "&amp;amp;amp;", "&amp;amp;amp;")
	escapes(t, "&lt;&gt;", "&amp;lt;&amp;gt;", "&amp;lt;&amp;gt;")
	escapes(t, "&quot;&nbsp;", "&amp;quot;&amp;nbsp;", "&amp;quot;&amp;nbsp;")
	escapes(t, "&#38;&#x26", "&amp;#38;&amp;#x26", "&amp;#38;&amp;#x26")
	escapes(t, "a?b=c&lt=d&copy", "a?b=c&amp;lt=d&amp;copy", "a?b=c&amp;lt=d&amp;copy")
}

// P9.1, P9.2: all texts of up to five pieces, and long ones, against the second reading.
func TestEscapeAll(t *testing.T) {
	pieces := []string{"&", "<", ">", "\"", "\xC2", "\xA0", "amp;", "x"}
	check := func(s string) {
		t.Helper()
		if Escape(s, false) != saidEscape(s, false) || Escape(s, true) != saidEscape(s, true) {
			t.Fatalf("Escape(%q): %q and %q, not %q and %q", s, Escape(s, false), Escape(s, true), saidEscape(s, false), saidEscape(s, true))
		}
		checkBack(t, s)
	}
	texts := []string{""}
	for range 5 {
		var longer []string
		for _, s := range texts {
			check(s)
			for _, p := range pieces {
				longer = append(longer, s+p)
			}
		}
		texts = longer
	}
	for _, s := range texts {
		check(s)
	}
	r := rand.New(rand.NewPCG(9, 1))
	for range 2000 {
		b := make([]byte, r.IntN(60))
		for i := range b {
			b[i] = byte(r.IntN(256))
		}
		s := string(b)
		for range r.IntN(12) {
			at := r.IntN(len(s) + 1)
			s = s[:at] + pieces[r.IntN(len(pieces))] + s[at:]
		}
		check(s)
	}
	check(strings.Repeat("&\xC2\xA0<\">x\xC2", 1<<15))
}

// P9.2: names of references, with and without their ends, in front of each byte.
func TestEscapeReferences(t *testing.T) {
	for _, name := range []string{"&amp", "&AMP", "&lt", "&quot", "&nbsp", "&not", "&notin", "&copy", "&#38", "&#x26", "&#", "&", "&Tab"} {
		for c := range 256 {
			checkBack(t, name+string([]byte{byte(c)}))
			checkBack(t, name+";"+string([]byte{byte(c)}))
		}
	}
}
