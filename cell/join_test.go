package cell

import (
	"bytes"
	"math"
	"slices"
	"testing"

	"marginalia/api"
)

// record: bytes and their cells, so many, of the Epoch 5 and the Life 6; the last one has three bytes.
func record(many int) ([]byte, []api.Cell) {
	c := chance(many)
	b := c.bytes(39*many - 36)
	return b, saidCut(b, 5, 6)
}

// P16.1: no cells are no record.
func TestJoinNone(t *testing.T) {
	noRecord(t, nil)
	noRecord(t, []api.Cell{})
	_, l := record(3)
	noRecord(t, l[:0])
	noRecord(t, []api.Cell{{}})
	noRecord(t, []api.Cell{{}, {}})
}

// P16.1: one cell: of 1 to 39 bytes it is a record, of none or more it is not.
func TestJoinOne(t *testing.T) {
	c := chance(1)
	b := c.bytes(6000)
	for _, n := range []uint64{0, 1, most64} {
		for size := 1; size <= 39; size++ {
			joinsTo(t, []api.Cell{{Epoch: n, Life: most64 - n, Of: 1, Data: b[:size]}}, b[:size])
		}
		for _, size := range []int{0, 40, 41, 78, 79, 255, 256, 295, 6000} {
			noRecord(t, []api.Cell{{Epoch: n, Life: most64 - n, Of: 1, Data: b[:size]}})
		}
	}
	noRecord(t, []api.Cell{{Epoch: 1, Life: 1, Of: 1}})
}

// P16.1: in their order; with one missing, one twice, two exchanged, any one ahead or behind.
func TestJoinOrder(t *testing.T) {
	for many := 1; many <= 6; many++ {
		b, l := record(many)
		joinsTo(t, l, b)
		for i := range l {
			noRecord(t, slices.Delete(slices.Clone(l), i, i+1))
			for at := 0; at <= many; at++ {
				noRecord(t, slices.Insert(slices.Clone(l), at, l[i]))
			}
			for j := range i {
				other := slices.Clone(l)
				other[i], other[j] = l[j], l[i]
				noRecord(t, other)
				other[i], other[j] = l[i], l[i]
				noRecord(t, other)
			}
			if i > 0 {
				noRecord(t, l[i:])
				noRecord(t, l[:i])
			}
		}
		back := slices.Clone(l)
		slices.Reverse(back)
		if many > 1 {
			noRecord(t, back)
		}
		noRecord(t, slices.Concat(l, l))
	}
}

// P16.1: one cell of which one thing is another one: of another Epoch, Life, Part or Of; alone these may be another record's, so the lists have two at least.
func TestJoinOneOther(t *testing.T) {
	for many := 2; many <= 5; many++ {
		b, l := record(many)
		for i := range l {
			for _, change := range []func(c *api.Cell){
				func(c *api.Cell) { c.Epoch++ }, func(c *api.Cell) { c.Epoch-- }, func(c *api.Cell) { c.Epoch = 0 }, func(c *api.Cell) { c.Epoch += 1 << 63 }, func(c *api.Cell) { c.Epoch += 1 << 32 },
				func(c *api.Cell) { c.Life++ }, func(c *api.Cell) { c.Life-- }, func(c *api.Cell) { c.Life = most64 }, func(c *api.Cell) { c.Life += 1 << 63 }, func(c *api.Cell) { c.Life += 1 << 32 },
				func(c *api.Cell) { c.Epoch, c.Life = c.Life, c.Epoch },
				func(c *api.Cell) { c.Part++ }, func(c *api.Cell) { c.Part-- }, func(c *api.Cell) { c.Part += 65536 }, func(c *api.Cell) { c.Part = math.MinInt }, func(c *api.Cell) { c.Part = math.MaxInt },
				func(c *api.Cell) { c.Of++ }, func(c *api.Cell) { c.Of-- }, func(c *api.Cell) { c.Of += 65536 }, func(c *api.Cell) { c.Of = 0 }, func(c *api.Cell) { c.Of = math.MinInt },
			} {
				other := slices.Clone(l)
				change(&other[i])
				noRecord(t, other)
			}
		}
		joinsTo(t, l, b)
	}
}

// P16.1: all cells with another Epoch or Life are a record still; all with another Part or Of are none.
func TestJoinAllOther(t *testing.T) {
	for many := 1; many <= 4; many++ {
		b, l := record(many)
		for _, n := range []uint64{0, 1, most64} {
			for i := range l {
				l[i].Epoch, l[i].Life = n, most64-n
			}
			joinsTo(t, l, b)
		}
		for _, by := range []int{-1, 1, 65536, -65536} {
			parts, ofs := slices.Clone(l), slices.Clone(l)
			for i := range l {
				parts[i].Part += by
				ofs[i].Of += by
			}
			noRecord(t, parts)
			noRecord(t, ofs)
		}
	}
}

// P16.1: each cell with each number of bytes: the last one may have 1 to 39, each one ahead has just 39.
func TestJoinSizes(t *testing.T) {
	room := bytes.Repeat([]byte("0123456789"), 12)
	for many := 1; many <= 4; many++ {
		b, l := record(many)
		for i := range l {
			for size := range 120 {
				other := slices.Clone(l)
				other[i].Data = room[:size]
				switch {
				case i == many-1 && size >= 1 && size <= 39:
					joinsTo(t, other, slices.Concat(b[:39*i], room[:size]))
				case i < many-1 && size == 39:
					joinsTo(t, other, slices.Concat(b[:39*i], room[:39], b[39*i+39:]))
				default:
					noRecord(t, other)
				}
			}
		}
	}
}

// P16.1: bytes that lie in other cells than those that Cut would lay them in.
func TestJoinMovedBytes(t *testing.T) {
	c := chance(3)
	b := c.bytes(117)
	for i := range 118 {
		for j := i; j <= 117; j++ {
			l := []api.Cell{{Of: 3, Data: b[:i]}, {Part: 1, Of: 3, Data: b[i:j]}, {Part: 2, Of: 3, Data: b[j:]}}
			if i == 39 && j == 78 {
				joinsTo(t, l, b)
			} else {
				noRecord(t, l)
			}
		}
	}
}

// P16.1: all lists of up to three of many cells, right ones and wrong ones, as the chapter is read a second time.
func TestJoinSaid(t *testing.T) {
	c := chance(4)
	long := c.bytes(40)
	var tried []api.Cell
	for _, size := range []int{0, 1, 38, 39, 40} {
		for of := 0; of <= 3; of++ {
			for part := -1; part <= of; part++ {
				tried = append(tried, api.Cell{Epoch: 1, Life: 2, Part: part, Of: of, Data: long[:size]})
			}
		}
	}
	for part := range 3 {
		tried = append(tried, api.Cell{Epoch: 2, Life: 2, Part: part, Of: 3, Data: long[:39]}, api.Cell{Epoch: 1, Life: 1, Part: part, Of: 3, Data: long[:39]})
	}
	told := map[int]int{} // how many records there are, by how many cells
	var try func(l []api.Cell, more int)
	try = func(l []api.Cell, more int) {
		want, is := saidJoin(l)
		if is {
			told[len(l)]++
			joinsTo(t, l, want)
		} else {
			noRecord(t, l)
		}
		for i := 0; more > 0 && i < len(tried); i++ {
			try(append(slices.Clone(l), tried[i]), more-1)
		}
	}
	try(nil, 3)
	if told[1] != 3 || told[2] != 3 || told[3] != 5 {
		t.Errorf("records by how many cells: %v", told)
	}
}
