package crc

import (
	"bytes"
	"hash/crc32"
	"slices"
	"testing"
)

func sumIs(t *testing.T, b []byte, want uint32) {
	t.Helper()
	if got := Sum(b); got != want {
		t.Errorf("Sum(%d bytes, %.40q): %08X, not %08X", len(b), b, got, want)
	}
}

func moreIs(t *testing.T, sum uint32, b []byte, want uint32) {
	t.Helper()
	if got := More(sum, b); got != want {
		t.Errorf("More(%08X, %d bytes, %.40q): %08X, not %08X", sum, len(b), b, got, want)
	}
}

// P15.1: sums that are told elsewhere, the chapter's example ahead.
func TestKnown(t *testing.T) {
	counted := make([]byte, 32)
	for i := range counted {
		counted[i] = byte(i)
	}
	for _, one := range []struct {
		text []byte
		want uint32
	}{
		{[]byte("123456789"), 0xCBF43926},
		{nil, 0},
		{[]byte{}, 0},
		{[]byte{0}, 0xD202EF8D},
		{[]byte{0xFF}, 0xFF000000},
		{[]byte("a"), 0xE8B7BE43},
		{[]byte("abc"), 0x352441C2},
		{[]byte("message digest"), 0x20159D7F},
		{[]byte("The quick brown fox jumps over the lazy dog"), 0x414FA339},
		{make([]byte, 4), 0x2144DF1C},
		{bytes.Repeat([]byte{0xFF}, 4), 0xFFFFFFFF},
		{make([]byte, 32), 0x190A55AD},
		{bytes.Repeat([]byte{0xFF}, 32), 0xFF6CAB0B},
		{counted, 0x91267E8A},
	} {
		sumIs(t, one.text, one.want)
		moreIs(t, 0, one.text, one.want)
	}
}

// P15.1: one byte of each value, and two of each pair.
func TestShort(t *testing.T) {
	for i := range 256 {
		sumIs(t, []byte{byte(i)}, said([]byte{byte(i)}))
	}
	for i := range 1 << 16 {
		b := []byte{byte(i), byte(i >> 8)}
		sumIs(t, b, said(b))
	}
}

// P15.1: as the chapter's words are read a second time, and as the library has it.
func TestSaid(t *testing.T) {
	for _, b := range texts() {
		sumIs(t, b, said(b))
		sumIs(t, b, crc32.ChecksumIEEE(b))
	}
}

// P15.1: the bits of a sum stand at their places: bytes with their sum behind them, its lowest byte first, have all one sum.
func TestSumBehind(t *testing.T) {
	for _, b := range texts() {
		s := Sum(b)
		whole := append(slices.Clone(b), byte(s), byte(s>>8), byte(s>>16), byte(s>>24))
		sumIs(t, whole, 0x2144DF1C)
	}
}

// P15.1: sums of bytes as long as sectors, blocks, records and more.
func TestLong(t *testing.T) {
	for _, n := range []int{60, 64, 252, 255, 256, 257, 4096, 6000, 65535, 65536, 1<<20 + 3} {
		c := chance(n)
		for _, b := range [][]byte{c.bytes(n), make([]byte, n), bytes.Repeat([]byte{0xFF}, n)} {
			want := crc32.ChecksumIEEE(b)
			sumIs(t, b, want)
			moreIs(t, want, b, crc32.Update(want, crc32.IEEETable, b))
			if n < 1<<17 && said(b) != want {
				t.Errorf("%d bytes: %08X, and read a second time %08X", n, want, said(b))
			}
		}
	}
}

// P15.1: with no bytes behind them a sum stays, whatever it is.
func TestNothingMore(t *testing.T) {
	for _, s := range sums() {
		moreIs(t, s, nil, s)
		moreIs(t, s, []byte{}, s)
		moreIs(t, s, []byte("rest")[:0], s)
	}
}

// P15.1: any sum is one of four bytes, and goes on as theirs does.
func TestAnySumGoesOn(t *testing.T) {
	for _, s := range sums() {
		sumIs(t, fourOf(s), s)
		for i := range 256 {
			b := []byte{byte(i)}
			moreIs(t, s, b, saidMore(s, b))
		}
		for _, b := range texts() {
			moreIs(t, s, b, saidMore(s, b))
			moreIs(t, s, b, crc32.Update(s, crc32.IEEETable, b))
		}
	}
}

// R4, R5: bytes stay as they were, the room behind their end is neither read nor changed, nothing is kept, and a call that is made again is told alike.
func TestBytesHandedIn(t *testing.T) {
	for _, b := range texts() {
		whole := append(slices.Clone(b), "something behind"...)
		ahead := slices.Clone(whole)
		in := whole[:len(b)]
		first, more := Sum(in), More(77, in)
		if !bytes.Equal(whole, ahead) {
			t.Errorf("what was handed in is now %q", whole)
		}
		for i := range whole[len(b):] {
			whole[len(b)+i] ^= 0xFF
		}
		sumIs(t, in, first)
		moreIs(t, 77, in, more)
		for i := range whole {
			whole[i] ^= 0xFF
		}
		sumIs(t, in, said(in))
		sumIs(t, b, first)
		moreIs(t, 77, b, more)
	}
}
