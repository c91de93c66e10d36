package charref

import (
	"math"
	"math/big"
	"regexp"
	"strconv"
	"strings"
	"testing"
)

// The chapter's lists, as they stand there.
const (
	openList   = "AMP 26, amp 26, LT 3C, lt 3C, GT 3E, gt 3E, QUOT 22, quot 22, nbsp A0, copy A9, laquo AB, not AC, shy AD, reg AE, deg B0, para B6, middot B7, raquo BB, Eacute C9, times D7, szlig DF, eacute E9, divide F7, uuml FC"
	closedList = "Tab; 9, NewLine; A, excl; 21, num; 23, apos; 27, lpar; 28, rpar; 29, sol; 2F, colon; 3A, bsol; 5C, ndash; 2013, mdash; 2014, lsquo; 2018, rsquo; 2019, ldquo; 201C, rdquo; 201D, hellip; 2026, euro; 20AC, trade; 2122, notin; 2209, timesb; 22A0"
	oldList    = "20AC 81 201A 192 201E 2026 2020 2021 2C6 2030 160 2039 152 8D 17D 8F 90 2018 2019 201C 201D 2022 2013 2014 2DC 2122 161 203A 153 9D 17E 178"
)

func hexadecimal(t *testing.T, s string) rune {
	n, err := strconv.ParseInt(s, 16, 32)
	if err != nil {
		t.Fatal(err)
	}
	return rune(n)
}

// allNames: each name that stands somewhere, those of the first list also with their semicolons.
func allNames(t *testing.T) map[string]string {
	out := map[string]string{}
	for _, x := range strings.Split(openList, ", ") {
		name, code, _ := strings.Cut(x, " ")
		text := string(hexadecimal(t, code))
		out[name], out[name+";"] = text, text
	}
	for _, x := range strings.Split(closedList, ", ") {
		name, code, _ := strings.Cut(x, " ")
		out[name] = string(hexadecimal(t, code))
	}
	if len(out) != 24*2+21 {
		t.Fatalf("%d names", len(out))
	}
	return out
}

// near: a name with a letter's case changed, and with a byte more, fewer or another.
func near(name string) []string {
	out := []string{"", ";", "&" + name, " " + name, name + " ", name + "\x00", name + name, strings.ToUpper(name), strings.ToLower(name)}
	for _, c := range ";&#=aAxz09_\x00\xFF" {
		out = append(out, name+string(c), string(c)+name)
	}
	for i := range len(name) {
		out = append(out, name[:i]+name[i+1:], name[:i], name[i:])
		for _, c := range []byte{name[i] ^ 32, name[i] + 1, name[i] - 1, 0, 255} {
			out = append(out, name[:i]+string([]byte{c})+name[i+1:])
		}
	}
	return out
}

var numbers = regexp.MustCompile(`^&#(?:([0-9]+)|[xX]([0-9A-Fa-f]+));?`)

// told: the text of a number, by the chapter's words.
func told(t *testing.T, n *big.Int) string {
	if n.Sign() <= 0 || n.Cmp(big.NewInt(0x10FFFF)) > 0 {
		return "\uFFFD"
	}
	v := rune(n.Int64())
	switch {
	case v >= 0xD800 && v <= 0xDFFF:
		return "\uFFFD"
	case v >= 0x80 && v <= 0x9F:
		return string(hexadecimal(t, strings.Fields(oldList)[v-0x80]))
	}
	return string(v)
}

// saidAt: a second reading of what stands at a place.
func saidAt(t *testing.T, names map[string]string, s string, at int, attr bool) (string, int) {
	if at < 0 || at >= len(s) || s[at] != '&' {
		return "", 0
	}
	s = s[at:]
	if m := numbers.FindStringSubmatch(s); m != nil {
		n := new(big.Int)
		if m[1] != "" {
			n.SetString(m[1], 10)
		} else {
			n.SetString(m[2], 16)
		}
		return told(t, n), len(m[0])
	}
	best := ""
	for name := range names {
		if len(name) > len(best) && strings.HasPrefix(s[1:], name) {
			best = name
		}
	}
	behind := s[1+len(best):]
	if best == "" || attr && !strings.HasSuffix(best, ";") && behind != "" &&
		strings.Contains("=ABCDEFGHIJKLMNOPQRSTUVWXYZabcdefghijklmnopqrstuvwxyz0123456789", behind[:1]) {
		return "&", 1
	}
	return names[best], 1 + len(best)
}

func saidDecode(t *testing.T, names map[string]string, s string, attr bool) string {
	out := ""
	for at := 0; at < len(s); {
		text, n := saidAt(t, names, s, at, attr)
		if n == 0 {
			text, n = s[at:at+1], 1
		}
		out, at = out+text, at+n
	}
	return out
}

// P3.1: every name of both lists, and all that is nearly one.
func TestNamed(t *testing.T) {
	names := allNames(t)
	for name := range names {
		for _, n := range append(near(name), name) {
			want, there := names[n]
			if got, ok := Named(n); ok != there || got != want {
				t.Errorf("Named(%q): %q, %v", n, got, ok)
			}
		}
	}
	for _, n := range []string{"", ";", "&", "amp;;", "&amp;", "#38", "euro", "Amp", "aMP;", "NewLine", "newline;", "tab;", "hearts;", strings.Repeat("a", 1000)} {
		if got, ok := Named(n); ok || got != "" {
			t.Errorf("Named(%q): %q, %v", n, got, ok)
		}
	}
}

// P3.1: the text of each number there is, and of some that are none.
func TestNumber(t *testing.T) {
	for n := -300; n <= 0x110100; n++ {
		if got, want := Number(n), told(t, big.NewInt(int64(n))); got != want {
			t.Fatalf("Number(%X): %q, not %q", n, got, want)
		}
	}
	for _, x := range []struct {
		n    int
		want string
	}{
		{0, "\uFFFD"}, {-1, "\uFFFD"}, {1, "\x01"}, {0x41, "A"}, {0x7F, "\x7F"}, {0x80, "\u20AC"}, {0x81, "\u0081"}, {0x9F, "\u0178"}, {0xA0, "\u00A0"},
		{0xD7FF, "\uD7FF"}, {0xD800, "\uFFFD"}, {0xDFFF, "\uFFFD"}, {0xE000, "\uE000"}, {0xFFFD, "\uFFFD"}, {0xFFFF, "\uFFFF"}, {0x10FFFF, "\U0010FFFF"}, {0x110000, "\uFFFD"},
		{math.MaxInt, "\uFFFD"}, {math.MinInt, "\uFFFD"}, {math.MaxInt32, "\uFFFD"}, {math.MinInt32, "\uFFFD"},
		{1<<32 + 0x41, "\uFFFD"}, {1<<32 + 0x80, "\uFFFD"}, {-1<<32 + 0x41, "\uFFFD"},
	} {
		if got := Number(x.n); got != x.want {
			t.Errorf("Number(%X): %q, not %q", x.n, got, x.want)
		}
	}
}

// P3.1: every name in a text and in an attribute, with each byte behind.
func TestAtNames(t *testing.T) {
	names := allNames(t)
	for name := range names {
		for _, n := range append(near(name), name) {
			for _, attr := range []bool{false, true} {
				s := "x&" + n
				wantText, wantSize := saidAt(t, names, s, 1, attr)
				if text, size := At(s, 1, attr); text != wantText || size != wantSize {
					t.Errorf("At(%q, 1, %v): %q, %d", s, attr, text, size)
				}
			}
		}
		for c := range 256 {
			for _, attr := range []bool{false, true} {
				s := "&" + name + string([]byte{byte(c)})
				wantText, wantSize := saidAt(t, names, s, 0, attr)
				if text, size := At(s, 0, attr); text != wantText || size != wantSize {
					t.Errorf("At(%q, 0, %v): %q, %d", s, attr, text, size)
				}
			}
		}
	}
}

// P3.1: references by number, and what is nearly one.
func TestAtNumbers(t *testing.T) {
	long := strings.Repeat("9", 5000)
	for _, x := range []struct {
		s    string
		text string
		size int
	}{
		{"&#", "&", 1}, {"&#;", "&", 1}, {"&#x", "&", 1}, {"&#X;", "&", 1}, {"&#xg", "&", 1}, {"&#a", "&", 1}, {"&# 65", "&", 1}, {"& #65", "&", 1}, {"&#-65;", "&", 1}, {"&#+65;", "&", 1}, {"&#xx41", "&", 1}, {"&x41;", "&", 1},
		{"&#65", "A", 4}, {"&#65;", "A", 5}, {"&#65;;", "A", 5}, {"&#65a", "A", 4}, {"&#65 ;", "A", 4}, {"&#065;", "A", 6}, {"&#1_0;", "\x01", 3},
		{"&#x41", "A", 5}, {"&#X41;", "A", 6}, {"&#x41g", "A", 5}, {"&#xaF;", "\u00AF", 6}, {"&#XAf", "\u00AF", 5}, {"&#x4G;", "\x04", 4}, {"&#x0x41;", "\uFFFD", 4},
		{"&#0", "\uFFFD", 3}, {"&#x0;", "\uFFFD", 5}, {"&#128;", "\u20AC", 6}, {"&#x9f", "\u0178", 5}, {"&#xD7FF;", "\uD7FF", 8}, {"&#xD800;", "\uFFFD", 8}, {"&#xdfff;", "\uFFFD", 8}, {"&#xE000;", "\uE000", 8},
		{"&#1114111;", "\U0010FFFF", 10}, {"&#1114112;", "\uFFFD", 10}, {"&#x10FFFF;", "\U0010FFFF", 10}, {"&#x110000", "\uFFFD", 9},
		{"&#4294967361;", "\uFFFD", 13}, {"&#18446744073709551681;", "\uFFFD", 23}, {"&#x10000000000000041;", "\uFFFD", 21},
		{"&#" + long + "x", "\uFFFD", 2 + 5000}, {"&#x" + long + ";", "\uFFFD", 3 + 5000 + 1}, {"&#" + strings.Repeat("0", 5000) + "65;", "A", 2 + 5000 + 3},
	} {
		// A reference by number is one in an attribute, whatever stands behind.
		for _, attr := range []bool{false, true} {
			for _, behind := range []string{"", "&", "\xFF"} {
				if text, size := At(x.s+behind, 0, attr); text != x.text || size != x.size {
					t.Errorf("At(%.40q, 0, %v): %q, %d", x.s+behind, attr, text, size)
				}
			}
		}
	}
	for _, s := range []string{"&#65=", "&#65z", "&#x41z", "&#x41="} {
		if text, _ := At(s, 0, true); text != "A" {
			t.Errorf("At(%q) in an attribute: %q", s, text)
		}
	}
}

// P3.1: places that hold no &, and places that are none.
func TestAtPlaces(t *testing.T) {
	for _, s := range []string{"", "x", "a&amp;b", "&", "&&", "x&", "\u00E9&lt"} {
		for _, attr := range []bool{false, true} {
			for _, at := range []int{-1, -2, len(s), len(s) + 1, len(s) + 100, math.MaxInt, math.MinInt} {
				if text, size := At(s, at, attr); text != "" || size != 0 {
					t.Errorf("At(%q, %d): %q, %d", s, at, text, size)
				}
			}
			for at := range len(s) {
				_, size := At(s, at, attr)
				if (size > 0) != (s[at] == '&') {
					t.Errorf("At(%q, %d): %d bytes", s, at, size)
				}
			}
		}
	}
	for _, x := range []struct {
		s    string
		at   int
		text string
		size int
	}{{"&", 0, "&", 1}, {"x&", 1, "&", 1}, {"&&amp;", 0, "&", 1}, {"&&amp;", 1, "&", 5}, {"x&amp;", 1, "&", 5}, {"x&amp;", 2, "", 0}, {"& lt;", 0, "&", 1}} {
		if text, size := At(x.s, x.at, false); text != x.text || size != x.size {
			t.Errorf("At(%q, %d): %q, %d", x.s, x.at, text, size)
		}
	}
}

// P3.1: the chapter's examples, names that begin others, and what is decoded once alone.
func TestDecode(t *testing.T) {
	for _, x := range []struct {
		s, text, attr string
	}{
		{"", "", ""}, {"x", "x", "x"}, {"&", "&", "&"}, {"&&", "&&", "&&"}, {"&;", "&;", "&;"},
		{"&ltx", "<x", "&ltx"}, {"&lt;x", "<x", "<x"}, {"&lt", "<", "<"}, {"&lt=", "<=", "&lt="}, {"&lt1", "<1", "&lt1"}, {"&ltZ", "<Z", "&ltZ"}, {"&lt-", "<-", "<-"}, {"&lt&lt", "<<", "<<"}, {"&lt\u00E9", "<\u00E9", "<\u00E9"}, {"&lt_", "<_", "<_"},
		{"&notin;", "\u2209", "\u2209"}, {"&notit;", "\u00ACit;", "&notit;"}, {"&notin", "\u00ACin", "&notin"}, {"&not;in;", "\u00ACin;", "\u00ACin;"}, {"&not in;", "\u00AC in;", "\u00AC in;"}, {"&notin;x", "\u2209x", "\u2209x"},
		{"&timesb;", "\u22A0", "\u22A0"}, {"&timesb", "\u00D7b", "&timesb"}, {"&times;b;", "\u00D7b;", "\u00D7b;"}, {"&timesbx;", "\u00D7bx;", "&timesbx;"},
		{"&#x41", "A", "A"}, {"&#128;", "\u20AC", "\u20AC"}, {"&#;", "&#;", "&#;"}, {"&#&#65", "&#A", "&#A"},
		{"&apos;&apos", "'&apos", "'&apos"}, {"&AMP&Amp;", "&&Amp;", "&&Amp;"}, {"&amp;lt;", "&lt;", "&lt;"}, {"&#38;lt;", "&lt;", "&lt;"}, {"&ampamp;", "&amp;", "&ampamp;"}, {"&&amp;amp;", "&&amp;", "&&amp;"},
		{"?a=1&copy=2&reg;&para", "?a=1\u00A9=2\u00AE\u00B6", "?a=1&copy=2\u00AE\u00B6"},
		{"\x00&lt\xFF\xC3&#x80;\xA9", "\x00<\xFF\xC3\u20AC\xA9", "\x00<\xFF\xC3\u20AC\xA9"},
	} {
		if got := Decode(x.s, false); got != x.text {
			t.Errorf("Decode(%q, false): %q, not %q", x.s, got, x.text)
		}
		if got := Decode(x.s, true); got != x.attr {
			t.Errorf("Decode(%q, true): %q, not %q", x.s, got, x.attr)
		}
	}
}

// joined: all texts of up to that many of the parts.
func joined(parts []string, most int) []string {
	out, last := []string{""}, []string{""}
	for range most {
		var next []string
		for _, s := range last {
			for _, p := range parts {
				next = append(next, s+p)
			}
		}
		out, last = append(out, next...), next
	}
	return out
}

var parts = []string{"&", "#", "x", "X", "0", "6", "a", "F", ";", "=", " ", "lt", "not", "in", "amp", "Tab", "\xC3", "\u00E9"}

// P3.1, P3.2: each text of some parts as the second reading has it, and there and back.
func TestAllShort(t *testing.T) {
	names := allNames(t)
	for _, s := range joined(parts, 4) {
		for _, attr := range []bool{false, true} {
			if got, want := Decode(s, attr), saidDecode(t, names, s, attr); got != want {
				t.Fatalf("Decode(%q, %v): %q, not %q", s, attr, got, want)
			}
			if got := Decode(strings.ReplaceAll(s, "&", "&amp;"), attr); got != s {
				t.Fatalf("%q, there and back: %q", s, got)
			}
		}
	}
}

// P3.2: every name and near name, written with &amp;, is as it was.
func TestThereAndBack(t *testing.T) {
	for name := range allNames(t) {
		for _, n := range append(near(name), name) {
			for _, s := range []string{"&" + n, "&&" + n + "&", "&amp;" + n, "&#" + n} {
				for _, attr := range []bool{false, true} {
					if got := Decode(strings.ReplaceAll(s, "&", "&amp;"), attr); got != s {
						t.Errorf("%q, there and back: %q", s, got)
					}
				}
			}
		}
	}
}

// P3.3: two texts with a blank between, each by itself.
func TestPartByPart(t *testing.T) {
	texts := joined(parts, 2)
	for name := range allNames(t) {
		texts = append(texts, "&"+name, name)
	}
	for _, a := range texts {
		for _, b := range texts {
			for _, attr := range []bool{false, true} {
				if got, want := Decode(a+" "+b, attr), Decode(a, attr)+" "+Decode(b, attr); got != want {
					t.Fatalf("Decode(%q, %v): %q, not %q", a+" "+b, attr, got, want)
				}
			}
		}
	}
}

// P3.1: what is long is as said too.
func TestLong(t *testing.T) {
	for _, p := range []string{"&", "&#", "&lt;", "&notin", "&#x1", "x", "&#9"} {
		if got, want := Decode(strings.Repeat(p, 20000), false), strings.Repeat(Decode(p, false), 20000); got != want {
			t.Errorf("many of %q", p)
		}
	}
	if got := Decode("&#"+strings.Repeat("1", 100000)+"&lt", false); got != "\uFFFD<" {
		t.Errorf("very many digits: %.40q", got)
	}
}
