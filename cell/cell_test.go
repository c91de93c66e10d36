package cell

import (
	"bytes"
	"math"
	"slices"
	"testing"

	"marginalia/api"
)

// some: the first cells of a list that may be very long.
func some(l []api.Cell) []api.Cell { return l[:min(len(l), 6)] }

func encodes(t *testing.T, c api.Cell, want []byte, e api.Errno) {
	t.Helper()
	if got, f := Encode(c); !bytes.Equal(got, want) || f != e {
		t.Fatalf("Encode(%v): %v, %d, not %v, %d", c, got, f, want, e)
	}
}

func decodes(t *testing.T, b []byte, want api.Cell, e api.Errno) {
	t.Helper()
	if got, f := Decode(b); !same(got, want) || f != e {
		t.Fatalf("Decode(%v): %v, %d, not %v, %d", b, got, f, want, e)
	}
}

func noCell(t *testing.T, b []byte) {
	t.Helper()
	decodes(t, b, api.Cell{}, errForm)
}

func cuts(t *testing.T, b []byte, epoch, life uint64, want []api.Cell) {
	t.Helper()
	if got := Cut(b, epoch, life); !sameList(got, want) {
		t.Fatalf("Cut(%d bytes, %.40q, %d, %d): %d cells, %v, not %d, %v", len(b), b, epoch, life, len(got), some(got), len(want), some(want))
	}
}

func joinsTo(t *testing.T, l []api.Cell, want []byte) {
	t.Helper()
	if got, is := Join(l); !bytes.Equal(got, want) || !is {
		t.Fatalf("Join(%d cells, %v): %d bytes, %.40q, %t, not %d bytes", len(l), some(l), len(got), got, is, len(want))
	}
}

func noRecord(t *testing.T, l []api.Cell) {
	t.Helper()
	if got, is := Join(l); len(got) != 0 || is {
		t.Fatalf("Join(%d cells, %v): %d bytes, %.40q, %t", len(l), some(l), len(got), got, is)
	}
}

// P16.1: a cell's bytes, one by one.
func TestLaid(t *testing.T) {
	c := api.Cell{Epoch: 0x0102030405060708, Life: 0x1112131415161718, Part: 0x2122, Of: 0x3132, Data: []byte("<b>")}
	b := []byte{1, 2, 3, 4, 5, 6, 7, 8, 0x11, 0x12, 0x13, 0x14, 0x15, 0x16, 0x17, 0x18, 0x21, 0x22, 0x31, 0x32, 3, '<', 'b', '>'}
	b = append(b, make([]byte, 36)...)
	b = append(b, 0x4C, 0x45, 0x60, 0xDE)
	encodes(t, c, b, ok)
	decodes(t, b, c, ok)
}

// P16.1: ordinary cells and all edges with one another, as the chapter is read a second time.
func TestCellsSaid(t *testing.T) {
	for _, c := range cells() {
		want, e := saidEncode(c)
		if e != ok || len(want) != 64 {
			t.Fatalf("%v may be: %d", c, e)
		}
		encodes(t, c, want, ok)
		decodes(t, want, c, ok)
	}
}

// P16.1: each bound of a cell, met and passed.
func TestBounds(t *testing.T) {
	for _, x := range []struct {
		part, of, size int
		e              api.Errno
	}{
		{0, 1, 0, ok}, {0, 1, 39, ok}, {0, 1, 40, errArg}, {0, 1, 41, errArg}, {0, 1, 256, errArg}, {0, 1, 6000, errArg},
		{-1, 1, 0, errArg}, {-1, 0, 0, errArg}, {-2, -1, 0, errArg}, {-65536, 1, 0, errArg}, {-1 << 32, 1, 0, errArg},
		{math.MinInt, 1, 0, errArg}, {math.MinInt, math.MaxInt, 0, errArg},
		{0, 0, 0, errArg}, {0, -1, 0, errArg}, {0, math.MinInt, 0, errArg},
		{1, 1, 0, errArg}, {2, 1, 0, errArg}, {0, 2, 5, ok}, {1, 2, 5, ok}, {2, 2, 5, errArg}, {3, 2, 5, errArg},
		{254, 255, 0, ok}, {255, 255, 0, errArg}, {255, 256, 0, ok}, {256, 256, 0, errArg},
		{0, 65534, 0, ok}, {0, 65535, 39, ok}, {0, 65535, 40, errArg}, {65534, 65535, 39, ok}, {65535, 65535, 0, errArg},
		{0, 65536, 0, errArg}, {65534, 65536, 0, errArg}, {65535, 65536, 0, errArg}, {65536, 65536, 0, errArg}, {65536, 65537, 0, errArg},
		{0, 65537, 0, errArg}, {0, 1 << 32, 0, errArg}, {0, 1<<32 + 1, 0, errArg}, {0, math.MaxInt, 0, errArg}, {math.MaxInt, math.MaxInt, 0, errArg},
	} {
		for _, n := range []uint64{0, 1, most64} {
			c := api.Cell{Epoch: n, Life: n, Part: x.part, Of: x.of, Data: bytes.Repeat([]byte{7}, x.size)}
			want, e := saidEncode(c)
			if e != x.e {
				t.Errorf("%v: read a second time %d, not %d", c, e, x.e)
			}
			encodes(t, c, want, x.e)
		}
	}
}

// P16.1: a Data that is nil is as one that is empty.
func TestNoData(t *testing.T) {
	for _, n := range []uint64{0, 1, most64} {
		a, _ := Encode(api.Cell{Epoch: n, Life: n, Of: 1})
		b, _ := Encode(api.Cell{Epoch: n, Life: n, Of: 1, Data: []byte{}})
		c, _ := Encode(api.Cell{Epoch: n, Life: n, Of: 1, Data: []byte("room")[:0]})
		if !bytes.Equal(a, b) || !bytes.Equal(a, c) || len(a) != 64 {
			t.Errorf("%v, %v, %v", a, b, c)
		}
		decodes(t, a, api.Cell{Epoch: n, Life: n, Of: 1}, ok)
	}
}

// P16.1: bytes of other lengths are no cell's.
func TestLengths(t *testing.T) {
	noCell(t, nil)
	noCell(t, []byte{})
	for _, c := range fewCells() {
		b, _ := saidEncode(c)
		long := append(slices.Clone(b), b...)
		for n := range long {
			if n != 64 {
				noCell(t, long[:n])
			}
		}
		noCell(t, long)
		noCell(t, append(slices.Clone(b), make([]byte, 192)...))
		noCell(t, append([]byte{0}, b...))
		noCell(t, b[1:])
	}
}

// P16.1: bytes of one value are no cell's; so are noughts with their sum.
func TestPlainBytes(t *testing.T) {
	for i := range 256 {
		b := bytes.Repeat([]byte{byte(i)}, 64)
		noCell(t, b)
		noCell(t, resummed(b))
		noCell(t, b[:60])
	}
}

// P16.1: with a right sum, each number of bytes that Data may be told to have; beyond 39 there is no cell, also where all that follows would be noughts.
func TestToldSizes(t *testing.T) {
	for size := range 256 {
		b := make([]byte, 64)
		b[19], b[20] = 1, byte(size)
		b = resummed(b)
		if size <= 39 {
			decodes(t, b, api.Cell{Of: 1, Data: make([]byte, size)}, ok)
		} else {
			noCell(t, b)
		}
		for i := range 39 {
			b[21+i] = 9
		}
		if b = resummed(b); size == 39 {
			decodes(t, b, api.Cell{Of: 1, Data: bytes.Repeat([]byte{9}, 39)}, ok)
		} else {
			noCell(t, b)
		}
	}
}

// P16.1: with a right sum, any bit behind Data that is none of a nought.
func TestBehindData(t *testing.T) {
	for size := range 40 {
		c := chance(size)
		b, _ := saidEncode(api.Cell{Epoch: 3, Life: 4, Part: 5, Of: 6, Data: c.bytes(size)})
		for at := 21 + size; at < 60; at++ {
			for _, by := range []byte{1, 2, 4, 8, 16, 32, 64, 128, 0xFF} {
				b[at] = by
				noCell(t, resummed(b))
				b[at] = 0
			}
		}
		decodes(t, resummed(b), api.Cell{Epoch: 3, Life: 4, Part: 5, Of: 6, Data: b[21 : 21+size]}, ok)
	}
}

// P16.1: with a right sum, a Part that is below Of, or not.
func TestToldParts(t *testing.T) {
	edges := []int{0, 1, 2, 3, 127, 128, 254, 255, 256, 257, 511, 512, 32767, 32768, 65279, 65280, 65533, 65534, 65535}
	for _, part := range edges {
		for _, of := range edges {
			b := make([]byte, 64)
			b[16], b[17], b[18], b[19] = byte(part>>8), byte(part), byte(of>>8), byte(of)
			b[20], b[21] = 1, 'x'
			if b = resummed(b); part < of {
				decodes(t, b, api.Cell{Part: part, Of: of, Data: []byte("x")}, ok)
			} else {
				noCell(t, b)
			}
		}
	}
}

// P16.1: a wrong sum: the right one with its bytes in another order, turned round, one more or less, none, and that of more or less than the 60 bytes.
func TestWrongSums(t *testing.T) {
	for _, c := range fewCells() {
		b, _ := saidEncode(c)
		sum := uint32(b[60])<<24 | uint32(b[61])<<16 | uint32(b[62])<<8 | uint32(b[63])
		lowest := []byte{b[63], b[62], b[61], b[60]}
		for _, wrong := range [][]byte{
			lowest, {b[61], b[60], b[63], b[62]}, {b[62], b[63], b[60], b[61]},
			{^b[60], ^b[61], ^b[62], ^b[63]}, {0, 0, 0, 0}, {0xFF, 0xFF, 0xFF, 0xFF},
			{byte((sum + 1) >> 24), byte((sum + 1) >> 16), byte((sum + 1) >> 8), byte(sum + 1)},
			{byte((sum - 1) >> 24), byte((sum - 1) >> 16), byte((sum - 1) >> 8), byte(sum - 1)},
			summed(b[:59])[59:], summed(b[1:60])[59:], summed(b)[64:], summed(append(slices.Clone(b[:60]), 0, 0, 0, 0))[64:],
		} {
			noCell(t, append(slices.Clone(b[:60]), wrong...))
		}
		decodes(t, b, c, ok)
	}
}

// P16.1: bytes of any kind, with right sums and wrong ones, as the chapter is read a second time.
func TestBytesSaid(t *testing.T) {
	var taken, refused int
	for seed := range 20000 {
		c := chance(seed)
		b, _ := saidEncode(c.cell())
		for range c.below(4) {
			at := 16 + c.below(44)
			b[at] = c.bytes(1)[0] >> c.below(9)
		}
		if c.below(8) > 0 {
			b = resummed(b)
		}
		want, e := saidDecode(b)
		decodes(t, b, want, e)
		if e == ok {
			taken++
			encodes(t, want, b, ok)
		} else {
			refused++
		}
	}
	if taken < 1000 || refused < 1000 {
		t.Errorf("%d cells and %d that are none: the test tries too little", taken, refused)
	}
}

// P16.1: records at the edges: none, a byte, one cell full or not, one byte more, and the greatest Epochs and Lives.
func TestCutEdges(t *testing.T) {
	c := chance(78)
	b := c.bytes(200)
	for _, n := range []uint64{0, 1, 5, most64} {
		e, f := n, most64-n
		cuts(t, nil, e, f, nil)
		cuts(t, []byte{}, e, f, nil)
		cuts(t, b[:0], e, f, nil)
		cuts(t, b[:1], e, f, []api.Cell{{Epoch: e, Life: f, Of: 1, Data: b[:1]}})
		cuts(t, b[:38], e, f, []api.Cell{{Epoch: e, Life: f, Of: 1, Data: b[:38]}})
		cuts(t, b[:39], e, f, []api.Cell{{Epoch: e, Life: f, Of: 1, Data: b[:39]}})
		cuts(t, b[:40], e, f, []api.Cell{{Epoch: e, Life: f, Of: 2, Data: b[:39]}, {Epoch: e, Life: f, Part: 1, Of: 2, Data: b[39:40]}})
		cuts(t, b[:78], e, f, []api.Cell{{Epoch: e, Life: f, Of: 2, Data: b[:39]}, {Epoch: e, Life: f, Part: 1, Of: 2, Data: b[39:78]}})
		cuts(t, b[:79], e, f, []api.Cell{{Epoch: e, Life: f, Of: 3, Data: b[:39]}, {Epoch: e, Life: f, Part: 1, Of: 3, Data: b[39:78]}, {Epoch: e, Life: f, Part: 2, Of: 3, Data: b[78:79]}})
	}
}

// P16.1: records of many lengths, as the chapter is read a second time.
func TestCutSaid(t *testing.T) {
	for _, n := range lengths() {
		c := chance(n)
		b := c.bytes(n)
		epoch, life := c.next(), c.next()
		cuts(t, b, epoch, life, saidCut(b, epoch, life))
		cuts(t, make([]byte, n), life, epoch, saidCut(make([]byte, n), life, epoch))
	}
}

// P16.1, P16.2: as long as 65535 cells hold, and a byte less; one more and there are none, nor with many more.
func TestLongest(t *testing.T) {
	c := chance(65535)
	b := c.bytes(2*most + 2)
	for _, n := range []int{most - 39, most - 38, most - 1, most} {
		l := Cut(b[:n], 8, 9)
		if !sameList(l, saidCut(b[:n], 8, 9)) || len(l) != (n+38)/39 {
			t.Errorf("Cut of %d bytes: %d cells, or others", n, len(l))
		}
		joinsTo(t, l, b[:n])
		if last, e := Encode(l[len(l)-1]); e != ok || len(last) != 64 {
			t.Errorf("the last cell of %d bytes: %d", n, e)
		}
	}
	for _, n := range []int{most + 1, most + 2, most + 38, most + 39, most + 40, 2 * most, 2*most + 1} {
		cuts(t, b[:n], 8, 9, nil)
	}
}

// P16.1: what Cut would tell of more than 65535 cells is no record.
func TestTooManyCells(t *testing.T) {
	b := make([]byte, most+1)
	var l []api.Cell
	for piece := range slices.Chunk(b, 39) {
		l = append(l, api.Cell{Part: len(l), Of: 65536, Data: piece})
	}
	noRecord(t, l)
	for i := range l {
		l[i].Of = 65535
	}
	noRecord(t, l)
	joinsTo(t, l[:65535], b[:most])
	for i := range l {
		l[i].Of = 0
	}
	noRecord(t, l)
}
