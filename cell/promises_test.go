package cell

import (
	"bytes"
	"slices"
	"testing"

	"marginalia/api"
)

// The chapter's examples.
func TestExamples(t *testing.T) {
	b := bytes.Repeat([]byte("x"), 40)
	cuts(t, b, 1, 2, []api.Cell{
		{Epoch: 1, Life: 2, Part: 0, Of: 2, Data: b[:39]},
		{Epoch: 1, Life: 2, Part: 1, Of: 2, Data: b[:1]},
	})
	noCell(t, make([]byte, 64))
}

// P16.2: what is encoded is decoded as it was.
func TestEncodedIsDecoded(t *testing.T) {
	c := chance(162)
	all := cells()
	for range 5000 {
		all = append(all, c.cell())
	}
	for _, x := range all {
		b, e := Encode(x)
		if e != ok || len(b) != 64 {
			t.Fatalf("Encode(%v): %d bytes, %d", x, len(b), e)
		}
		decodes(t, b, x, ok)
	}
}

// P16.2: what is decoded is encoded as it was: bytes that another made, and any bytes with their sum that are taken.
func TestDecodedIsEncoded(t *testing.T) {
	c := chance(163)
	var taken int
	for i := range 20000 {
		b, _ := saidEncode(c.cell())
		if i%2 == 1 {
			b[c.below(60)] = c.bytes(1)[0]
			b = resummed(b)
		}
		if x, e := Decode(b); e == ok {
			taken++
			encodes(t, x, b, ok)
		}
	}
	if taken < 10000 {
		t.Errorf("only %d are taken", taken)
	}
}

// P16.2: what is cut is joined as it was, through its bytes too.
func TestCutIsJoined(t *testing.T) {
	for _, n := range lengths() {
		c := chance(n)
		for _, b := range [][]byte{c.bytes(n), make([]byte, n), bytes.Repeat([]byte{0xFF}, n)} {
			l := Cut(b, c.next(), c.next())
			joinsTo(t, l, b)
			var back []api.Cell
			for _, x := range l {
				laid, e := Encode(x)
				if e != ok {
					t.Fatalf("Encode(%v): %d", x, e)
				}
				y, e := Decode(laid)
				if e != ok {
					t.Fatalf("Decode(%v): %d", laid, e)
				}
				back = append(back, y)
			}
			joinsTo(t, back, b)
		}
	}
}

// P16.2: what is joined is cut as it was.
func TestJoinedIsCut(t *testing.T) {
	for many := 1; many <= 40; many++ {
		_, l := record(many)
		b, is := Join(l)
		if !is {
			t.Fatalf("%d cells are no record", many)
		}
		cuts(t, b, 5, 6, l)
	}
}

// P16.3: each byte made each other one.
func TestOneByte(t *testing.T) {
	for _, c := range fewCells() {
		b, e := Encode(c)
		if e != ok {
			t.Fatalf("Encode(%v): %d", c, e)
		}
		for at := range b {
			for by := 1; by < 256; by++ {
				b[at] ^= byte(by)
				noCell(t, b)
				b[at] ^= byte(by)
			}
		}
		decodes(t, b, c, ok)
	}
}

// P16.3: by one bit, and by all, of many cells; and made a nought, or all ones.
func TestOneByteOfMany(t *testing.T) {
	for _, c := range cells() {
		b, e := Encode(c)
		if e != ok {
			t.Fatalf("Encode(%v): %d", c, e)
		}
		for at := range b {
			other := slices.Clone(b)
			for _, by := range []byte{1, 2, 4, 8, 16, 32, 64, 128, 0xFF, b[at], ^b[at]} {
				if other[at] = b[at] ^ by; by != 0 {
					noCell(t, other)
				}
			}
		}
		decodes(t, b, c, ok)
	}
}
