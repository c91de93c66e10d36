package cell

import (
	"bytes"
	"encoding/hex"
	"fmt"
	"hash/crc32"
	"reflect"
	"slices"
	"strings"

	"marginalia/api"
)

const (
	ok      = api.OK
	errArg  = api.ErrArg
	errForm = api.ErrForm

	most64 = 1<<64 - 1
	most   = 65535 * 39 // bytes of the longest record
)

// said.. is a second reading of the chapter: a cell's bytes are written as hexadecimal figures, and cells are held against what is cut.

func saidMayBe(c api.Cell) bool {
	switch {
	case c.Part < 0, c.Part >= c.Of, c.Of > 65535, len(c.Data) > 39:
		return false
	}
	return true
}

func saidEncode(c api.Cell) ([]byte, api.Errno) {
	if !saidMayBe(c) {
		return nil, errArg
	}
	return forged(fmt.Sprintf("%016x%016x%04x%04x%02x%x", c.Epoch, c.Life, c.Part, c.Of, len(c.Data), c.Data)), ok
}

// forged: 60 bytes that begin with these figures, noughts behind them, and the sum of all of them.
func forged(figures string) []byte {
	b, err := hex.DecodeString(figures + strings.Repeat("0", 120-len(figures)))
	if err != nil {
		panic(err)
	}
	return summed(b)
}

// summed: 60 bytes, and their sum behind them.
func summed(b []byte) []byte {
	sum, err := hex.DecodeString(fmt.Sprintf("%08x", crc32.ChecksumIEEE(b)))
	if err != nil {
		panic(err)
	}
	return append(slices.Clone(b), sum...)
}

// resummed: a cell's bytes of which some were changed, with the sum that they have now.
func resummed(b []byte) []byte { return summed(b[:60]) }

func saidDecode(b []byte) (api.Cell, api.Errno) {
	if len(b) != 64 || !bytes.Equal(resummed(b), b) {
		return api.Cell{}, errForm
	}
	var c api.Cell
	var size int
	text := hex.EncodeToString(b)
	if _, err := fmt.Sscanf(text[:42], "%16x%16x%4x%4x%2x", &c.Epoch, &c.Life, &c.Part, &c.Of, &size); err != nil {
		panic(err)
	}
	if size > 39 || strings.Trim(text[42+2*size:120], "0") != "" {
		return api.Cell{}, errForm
	}
	c.Data = b[21 : 21+size]
	if !saidMayBe(c) {
		return api.Cell{}, errForm
	}
	return c, ok
}

func saidCut(b []byte, epoch, life uint64) []api.Cell {
	var out []api.Cell
	for piece := range slices.Chunk(b, 39) {
		out = append(out, api.Cell{Epoch: epoch, Life: life, Part: len(out), Data: piece})
	}
	if len(out) > 65535 {
		return nil
	}
	for i := range out {
		out[i].Of = len(out)
	}
	return out
}

func saidJoin(l []api.Cell) ([]byte, bool) {
	if len(l) == 0 {
		return nil, false
	}
	var whole []byte
	for _, c := range l {
		whole = append(whole, c.Data...)
	}
	if !sameList(l, saidCut(whole, l[0].Epoch, l[0].Life)) {
		return nil, false
	}
	return whole, true
}

// same: nil and empty Data are the same.
func same(a, b api.Cell) bool {
	if !bytes.Equal(a.Data, b.Data) {
		return false
	}
	a.Data, b.Data = nil, nil
	return reflect.DeepEqual(a, b)
}

func sameList(a, b []api.Cell) bool { return slices.EqualFunc(a, b, same) }

// chance is numbers that look like chance, the same at each run.
type chance uint64

func (c *chance) next() uint64 {
	*c = *c*6364136223846793005 + 1442695040888963407
	return uint64(*c>>32)<<32 | uint64(*c>>40)
}

func (c *chance) below(n int) int { return int(c.next()>>33) % n }

func (c *chance) bytes(n int) []byte {
	out := make([]byte, n)
	for i := range out {
		out[i] = byte(c.next() >> 56)
	}
	return out
}

// cell: any one that may be.
func (c *chance) cell() api.Cell {
	of := 1 + c.below(65535)>>c.below(16)
	return api.Cell{Epoch: c.next() >> c.below(64), Life: c.next() >> c.below(64), Part: c.below(of), Of: of, Data: c.bytes(c.below(40))}
}

// cells: ordinary ones, and all the edges with one another.
func cells() []api.Cell {
	var out []api.Cell
	long := make([]byte, 39)
	for i := range long {
		long[i] = byte(200 + i)
	}
	for _, data := range [][]byte{nil, {}, {0}, {0xFF}, []byte("ab"), long[:38], long, make([]byte, 39), bytes.Repeat([]byte{0xFF}, 39)} {
		for _, n := range []uint64{0, 1, 258, 1<<63 + 7, most64} {
			for _, parts := range [][2]int{{0, 1}, {0, 2}, {1, 2}, {2, 3}, {255, 256}, {256, 257}, {0, 65535}, {65534, 65535}} {
				out = append(out, api.Cell{Epoch: n, Life: most64 - n, Part: parts[0], Of: parts[1], Data: data})
			}
		}
	}
	c := chance(16)
	for range 200 {
		out = append(out, c.cell())
	}
	return out
}

// fewCells: some of them.
func fewCells() []api.Cell {
	c := chance(61)
	out := []api.Cell{
		{Of: 1}, {Epoch: 1, Life: 258, Part: 2, Of: 3, Data: []byte("ab")},
		{Epoch: most64, Life: most64, Part: 65534, Of: 65535, Data: bytes.Repeat([]byte{0xFF}, 39)},
		{Epoch: 7, Life: 1, Part: 0, Of: 65535, Data: make([]byte, 39)},
	}
	for range 20 {
		out = append(out, c.cell())
	}
	return out
}

// lengths: of records, the edges among them, the longest ones aside.
func lengths() []int {
	out := []int{6000, 65535, 65536, 255 * 39, 255*39 + 1, 256 * 39, 256*39 + 1}
	for n := 1; n <= 200; n++ {
		out = append(out, n)
	}
	return out
}
