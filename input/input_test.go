package input

import (
	"bytes"
	"strings"
	"testing"
)

// row: a line of the chapter's good sequences: from which to which each byte may be.
type row [][2]byte

var rows = []row{
	{{0x00, 0x7F}},
	{{0xC2, 0xDF}, {0x80, 0xBF}},
	{{0xE0, 0xE0}, {0xA0, 0xBF}, {0x80, 0xBF}},
	{{0xE1, 0xEC}, {0x80, 0xBF}, {0x80, 0xBF}},
	{{0xED, 0xED}, {0x80, 0x9F}, {0x80, 0xBF}},
	{{0xEE, 0xEF}, {0x80, 0xBF}, {0x80, 0xBF}},
	{{0xF0, 0xF0}, {0x90, 0xBF}, {0x80, 0xBF}, {0x80, 0xBF}},
	{{0xF1, 0xF3}, {0x80, 0xBF}, {0x80, 0xBF}, {0x80, 0xBF}},
	{{0xF4, 0xF4}, {0x80, 0x8F}, {0x80, 0xBF}, {0x80, 0xBF}},
}

// begun: how many bytes of s are a beginning of a sequence of the row.
func (r row) begun(s string) int {
	n := 0
	for n < len(r) && n < len(s) && r[n][0] <= s[n] && s[n] <= r[n][1] {
		n++
	}
	return n
}

// plainPieces goes through s by the chapter's words alone, to hold the program against.
func plainPieces(s string) (pieces []string, good []bool) {
	for len(s) > 0 {
		n, whole := 1, false
		for _, r := range rows {
			k := r.begun(s)
			n = max(n, k)
			whole = whole || k == len(r)
		}
		pieces, good = append(pieces, s[:n]), append(good, whole)
		s = s[n:]
	}
	return pieces, good
}

func plainDecode(s string) string {
	pieces, good := plainPieces(strings.TrimPrefix(s, "\xEF\xBB\xBF"))
	out := ""
	for i, p := range pieces {
		if !good[i] {
			p = "\xEF\xBF\xBD"
		}
		out += p
	}
	return out
}

func plainLines(s string) string {
	return strings.ReplaceAll(strings.ReplaceAll(s, "\r\n", "\n"), "\r", "\n")
}

func plainValid(s string) bool {
	_, good := plainPieces(s)
	for _, g := range good {
		if !g {
			return false
		}
	}
	return true
}

// edgeBytes: the first and last bytes of all ranges, their neighbours, and what Lines and Text look for.
const edgeBytes = "\x00\x0A\x0D\x41\x7F\x80\x8F\x90\x9F\xA0\xBB\xBF\xC0\xC1\xC2\xDF\xE0\xE1\xEC\xED\xEE\xEF\xF0\xF1\xF3\xF4\xF5\xFF"

// eachText hands over all texts of at most n of the bytes.
func eachText(n int, do func(string)) {
	texts := []string{""}
	for ; n >= 0; n-- {
		var longer []string
		for _, s := range texts {
			do(s)
			for i := 0; i < len(edgeBytes) && n > 0; i++ {
				longer = append(longer, s+edgeBytes[i:i+1])
			}
		}
		texts = longer
	}
}

// hold compares all five functions with the chapter's words.
func hold(t *testing.T, s string) {
	t.Helper()
	decoded := plainDecode(s)
	if got := Decode([]byte(s)); got != decoded {
		t.Errorf("Decode(% X): % X, not % X", s, got, decoded)
	}
	if got := Lines(s); got != plainLines(s) {
		t.Errorf("Lines(% X): % X, not % X", s, got, plainLines(s))
	}
	text := strings.ReplaceAll(plainLines(decoded), "\x00", "")
	if got := Text([]byte(s)); got != text {
		t.Errorf("Text(% X): % X, not % X", s, got, text)
	}
	if got := Valid(s); got != plainValid(s) {
		t.Errorf("Valid(% X): %v", s, got)
	}
	pieces, _ := plainPieces(s)
	if got := Count(s); got != len(pieces) {
		t.Errorf("Count(% X): %d, not %d", s, got, len(pieces))
	}
}

// P1.1: all short texts of bytes at the edges.
func TestShortTexts(t *testing.T) {
	eachText(4, func(s string) { hold(t, s) })
}

// P1.1: what follows upon a piece, and the mark ahead, do not change how it is cut.
func TestShortTextsWithin(t *testing.T) {
	for _, around := range [][2]string{
		{"\xEF\xBB\xBF", ""},
		{"\xEF\xBB\xBF\xEF\xBB\xBF", "\xE2\x82"},
		{"\xEF\xBB", "x"},
		{"\xF0\x9F\x98", "\x80"},
		{"a\r", "\n\x00"},
		{"\uFFFD", "\uFFFD"},
	} {
		eachText(2, func(s string) { hold(t, around[0]+s+around[1]) })
	}
}

// P1.1: every byte alone, and every two.
func TestAllPairs(t *testing.T) {
	for a := 0; a < 256; a++ {
		hold(t, string([]byte{byte(a)}))
		for b := 0; b < 256; b++ {
			hold(t, string([]byte{byte(a), byte(b)}))
		}
	}
}

// P1.1: each row of good sequences at its first and last bytes is one piece, and right.
func TestRowsAtTheirEdges(t *testing.T) {
	for _, r := range rows {
		for corner := 0; corner < 1<<len(r); corner++ {
			s := ""
			for i, edge := range r {
				s += string([]byte{edge[corner>>i&1]})
			}
			if !Valid(s) || Count(s) != 1 || Decode([]byte(s)) != s {
				t.Errorf("% X: Valid %v, Count %d, Decode % X", s, Valid(s), Count(s), Decode([]byte(s)))
			}
		}
	}
}

// P1.1: each row with one byte just beyond its edge; pieces is how many there then are.
func TestRowsBeyondTheirEdges(t *testing.T) {
	for _, x := range []struct {
		s      string
		pieces int
	}{
		{"\x80", 1}, {"\xC1\x80", 2}, {"\xC0\xBF", 2}, {"\xC2\x7F", 2}, {"\xDF\xC0", 2}, {"\xC2", 1},
		{"\xE0\x9F\x80", 3}, {"\xE0\xC0\x80", 3}, {"\xE0\xA0\x7F", 2}, {"\xE0\xBF\xC0", 2},
		{"\xE1\x7F\x80", 3}, {"\xEC\xC0\x80", 3}, {"\xEC\x80\x7F", 2}, {"\xE1\xBF\xC0", 2},
		{"\xED\xA0\x80", 3}, {"\xED\xBF\xBF", 3}, {"\xED\x7F\x80", 3}, {"\xED\x9F\xC0", 2}, {"\xED\x9F\x7F", 2},
		{"\xEE\x7F\x80", 3}, {"\xEF\xC0\x80", 3}, {"\xEE\x80\x7F", 2}, {"\xEF\xBF\xC0", 2},
		{"\xF0\x8F\xBF\xBF", 4}, {"\xF0\xC0\x80\x80", 4}, {"\xF0\x90\x7F\x80", 3}, {"\xF0\x90\x80\xC0", 2}, {"\xF0\xBF\xBF\x7F", 2},
		{"\xF1\x7F\x80\x80", 4}, {"\xF3\xC0\x80\x80", 4}, {"\xF1\x80\xC0\x80", 3}, {"\xF3\xBF\xBF\xC0", 2},
		{"\xF4\x90\x80\x80", 4}, {"\xF4\x7F\x80\x80", 4}, {"\xF4\x8F\xC0\x80", 3}, {"\xF4\x8F\xBF\x7F", 2},
		{"\xF5\x80\x80\x80", 4}, {"\xF8\x88\x80\x80\x80", 5}, {"\xFE", 1}, {"\xFF", 1},
	} {
		if Valid(x.s) {
			t.Errorf("Valid(% X)", x.s)
		}
		if got := Count(x.s); got != x.pieces {
			t.Errorf("Count(% X): %d, not %d", x.s, got, x.pieces)
		}
	}
}

// P1.1: the chapter's examples, and bad pieces that begin a good sequence.
func TestDecode(t *testing.T) {
	for _, x := range []struct {
		s, want string
		pieces  int
	}{
		{"", "", 0},
		{"a\xFFb", "a\uFFFDb", 3},
		{"\xE2\x82A", "\uFFFDA", 2},
		{"\xED\xA0\x80", "\uFFFD\uFFFD\uFFFD", 3},
		{"a\xC3", "a\uFFFD", 2},
		{"a\xE2", "a\uFFFD", 2},
		{"a\xE2\x82", "a\uFFFD", 2},
		{"a\xF0\x9F\x98", "a\uFFFD", 2},
		{"\xF0\x9F\x98\xF0\x9F\x98\x80", "\uFFFD\U0001F600", 2},
		{"\xE2\x82\xE2\x82\xAC", "\uFFFD\u20AC", 2},
		{"\xE2\x82\xAC\x82", "\u20AC\uFFFD", 2},
		{"\uFFFD\xEF\xBF", "\uFFFD\uFFFD", 2},
		{"a\x00b\r\n", "a\x00b\r\n", 5},
	} {
		if got := Decode([]byte(x.s)); got != x.want {
			t.Errorf("Decode(% X): % X, not % X", x.s, got, x.want)
		}
		if got := Count(x.s); got != x.pieces {
			t.Errorf("Count(% X): %d, not %d", x.s, got, x.pieces)
		}
	}
	if Decode(nil) != "" || Text(nil) != "" {
		t.Error("nil is the empty list")
	}
}

// P1.1: the mark goes once, ahead of all, and only whole.
func TestMark(t *testing.T) {
	for _, x := range []struct {
		s, want string
		pieces  int
	}{
		{"\xEF\xBB\xBF", "", 1},
		{"\xEF\xBB\xBFx", "x", 2},
		{"\xEF\xBB\xBF\xEF\xBB\xBF", "\uFEFF", 2},
		{"\xEF\xBB\xBF\xEF\xBB\xBFx", "\uFEFFx", 3},
		{"x\xEF\xBB\xBF", "x\uFEFF", 2},
		{"\x00\xEF\xBB\xBF", "\x00\uFEFF", 2},
		{"\xEF\xBB", "\uFFFD", 1},
		{"\xEF\xBB\xEF\xBB\xBF", "\uFFFD\uFEFF", 2},
		{"\xEF\xBB\xBF\xBF", "\uFFFD", 2},
		{"\xFE\xFFx", "\uFFFD\uFFFDx", 3},
	} {
		if got := Decode([]byte(x.s)); got != x.want {
			t.Errorf("Decode(% X): % X, not % X", x.s, got, x.want)
		}
		if got := Count(x.s); got != x.pieces {
			t.Errorf("Count(% X): %d, not %d", x.s, got, x.pieces)
		}
	}
	if !Valid("\uFEFF") || !Valid("\uFEFF\uFEFFx") || Valid("\xEF\xBB") {
		t.Error("Valid: the mark is a good sequence, its beginning is none")
	}
}

// P1.1: Valid tells the rune of a bad piece from the same rune in the text.
func TestValid(t *testing.T) {
	for s, want := range map[string]bool{
		"": true, "abc": true, "\x00": true, "\uFFFD": true, "a\uFFFD\u20AC\U0010FFFF": true,
		"\uFFFD\xFF": false, "\xEF\xBF": false, "\xEF\xBFx\uFFFD": false, "a\xC3": false, "\x80\uFFFD": false,
	} {
		if got := Valid(s); got != want {
			t.Errorf("Valid(% X): %v", s, got)
		}
	}
}

// P1.1: carriage returns, with and without a line feed behind; all else stays, bad bytes too.
func TestLines(t *testing.T) {
	for _, x := range [][2]string{
		{"", ""},
		{"a\r\nb\rc", "a\nb\nc"},
		{"\r", "\n"},
		{"\r\n", "\n"},
		{"\n\r", "\n\n"},
		{"\r\r", "\n\n"},
		{"\r\r\n", "\n\n"},
		{"\r\n\r\n", "\n\n"},
		{"\r\n\n", "\n\n"},
		{"\r\x00\n", "\n\x00\n"},
		{"\xE2\x82\r\xFF\r\n\x80", "\xE2\x82\n\xFF\n\x80"},
		{"\xEF\xBB\xBFa\r", "\xEF\xBB\xBFa\n"},
		{"\u0085\u2028\uFFFD", "\u0085\u2028\uFFFD"},
	} {
		if got := Lines(x[0]); got != x[1] {
			t.Errorf("Lines(% X): % X, not % X", x[0], got, x[1])
		}
	}
}

// P1.1: Text is Decode, then Lines, and then the bytes 0 go.
func TestText(t *testing.T) {
	for _, x := range [][2]string{
		{"", ""},
		{"\x00", ""},
		{"\x00\x00a\x00", "a"},
		{"a\r\x00\nb", "a\n\nb"},
		{"a\x00\r\nb", "a\nb"},
		{"\xEF\xBB\xBFa\r\nb\rc\xFF", "a\nb\nc\uFFFD"},
		{"\x00\xEF\xBB\xBFa", "\uFEFFa"},
		{"\xE2\x00\x82", "\uFFFD\uFFFD"},
		{"\xE2\r\x82\n", "\uFFFD\n\uFFFD\n"},
	} {
		if got := Text([]byte(x[0])); got != x[1] {
			t.Errorf("Text(% X): % X, not % X", x[0], got, x[1])
		}
	}
}

// P1.2: answers are right, and a right text without the mark ahead is decoded as it is.
func TestRight(t *testing.T) {
	eachText(4, func(s string) {
		decoded := Decode([]byte(s))
		if !plainValid(decoded) || !plainValid(Text([]byte(s))) {
			t.Errorf("% X: an answer is not right", s)
		}
		if plainValid(s) && !strings.HasPrefix(s, "\xEF\xBB\xBF") && decoded != s {
			t.Errorf("Decode(% X): % X, of a right text", s, decoded)
		}
	})
}

// P1.2: every rune that there is stays as it is.
func TestEveryRune(t *testing.T) {
	n := 0
	var all strings.Builder
	for r := rune(0); r <= 0x10FFFF; r++ {
		if r < 0xD800 || r > 0xDFFF {
			all.WriteRune(r)
			n++
		}
	}
	s := all.String()
	if Decode([]byte(s)) != s || !Valid(s) || Count(s) != n {
		t.Error("a text of all runes is not decoded as it is")
	}
}

// P1.3: bytes behind a right text are decoded as alone.
func TestPieceByPiece(t *testing.T) {
	for _, a := range []string{"", "a", "\r", "\x00", "\u00E9", "\u20AC", "\uFFFD", "\U0001F600", "\U0010FFFF", "x\uFEFF"} {
		eachText(3, func(b string) {
			if strings.HasPrefix(b, "\xEF\xBB\xBF") {
				return
			}
			if got, want := Decode([]byte(a+b)), a+Decode([]byte(b)); got != want {
				t.Errorf("Decode(% X behind % X): % X, not % X", b, a, got, want)
			}
		})
	}
}

// Rule R4: what is handed in stays as it is, the room behind it too, and is not kept.
func TestArgumentsStay(t *testing.T) {
	room := []byte("\xEF\xBB\xBFa\r\n\x00\xE2\x82behind")
	before := bytes.Clone(room)
	b := room[:9]
	decoded, text := Decode(b), Text(b)
	if !bytes.Equal(room, before) {
		t.Error("an argument was changed")
	}
	for i := range room {
		room[i] = 'z'
	}
	if decoded != "a\r\n\x00\uFFFD" || text != "a\n\uFFFD" {
		t.Errorf("% X, % X: an answer hangs on its argument", decoded, text)
	}
}

// Rule R1: texts of all sizes end, bad ones too.
func TestLongTexts(t *testing.T) {
	for _, piece := range []string{"\xF0\x9F\x98", "\x80", "\r", "\r\n", "\uFFFD", "\x00"} {
		long := strings.Repeat(piece, 200000)
		if got := Count(long); got != 200000*Count(piece) {
			t.Errorf("Count of many % X: %d", piece, got)
		}
		if got := Decode([]byte(long)); got != strings.Repeat(Decode([]byte(piece)), 200000) {
			t.Errorf("Decode of many % X", piece)
		}
		if got := Text([]byte(long)); got != strings.Repeat(Text([]byte(piece)), 200000) {
			t.Errorf("Text of many % X", piece)
		}
	}
}
