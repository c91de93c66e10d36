package pager

import (
	"bytes"

	"marginalia/api"
	"marginalia/crc"
	"marginalia/number"
)

// heads is how many there are: while the one is written, the other one tells the last commit.
const heads = 2

// Where in a head's bytes each thing begins; the generation begins them.
const (
	rootAt  = 8
	epochAt = 16
	restAt  = 24
	sumAt   = 60
)

// head is what one tells.
type head struct {
	generation uint64
	above      uint64 // the root and one: 0 is none
	epoch      uint64
}

// headOf: what a block tells, if it is right.
func headOf(b []byte) head {
	return head{
		generation: number.Of(b[:rootAt]),
		above:      number.Of(b[rootAt:epochAt]),
		epoch:      number.Of(b[epochAt:restAt]),
	}
}

// right: is this block of that number, in a region of so many pages, a right head that tells just this?
func (h head) right(b []byte, n, pages int) bool {
	if h.generation == 0 || h.number() != n || h.above > uint64(pages) {
		return false
	}
	return bytes.Equal(h.block()[:api.Sector], b[:api.Sector])
}

// number: of the head by which it is told.
func (h head) number() int { return int(h.generation % heads) }

// block: what is written.
func (h head) block() []byte {
	out := make([]byte, api.Block) // noughts, wherever nothing is laid
	copy(out[:rootAt], number.Bytes(h.generation, 8))
	copy(out[rootAt:epochAt], number.Bytes(h.above, 8))
	copy(out[epochAt:restAt], number.Bytes(h.epoch, 8))
	copy(out[sumAt:api.Sector], number.Bytes(uint64(crc.Sum(out[:sumAt])), 4))
	return out
}
