package disk

import (
	"bytes"
	"math"
	"testing"

	"marginalia/api"
)

const (
	ok      = api.OK
	errArg  = api.ErrArg
	errDown = api.ErrDown
)

func fresh(t *testing.T, blocks int) *Disk {
	t.Helper()
	d, e := New(blocks)
	if e != ok || d == nil {
		t.Fatalf("New(%d): %v, %d", blocks, d, e)
	}
	return d
}

// fill: a block of one byte.
func fill(c byte) []byte { return bytes.Repeat([]byte{c}, api.Block) }

// pattern: a block in which no byte stands twice, and that has another byte than every other pattern at each place.
func pattern(k int) []byte {
	out := make([]byte, api.Block)
	for i := range out {
		out[i] = byte(i + k)
	}
	return out
}

// sectors: a block whose sectors are of one byte each.
func sectors(c ...byte) []byte {
	var out []byte
	for _, one := range c {
		out = append(out, bytes.Repeat([]byte{one}, api.Sector)...)
	}
	return out
}

// bits: a list as noughts and ones.
func bits(text string) []bool {
	var out []bool
	for _, c := range text {
		out = append(out, c == '1')
	}
	return out
}

// list: a list of so many, by the bits of a number.
func list(number, many int) []bool {
	out := make([]bool, many)
	for i := range out {
		out[i] = number>>i&1 == 1
	}
	return out
}

func wrote(t *testing.T, d *Disk, n int, b []byte, want api.Errno) {
	t.Helper()
	if e := d.Write(n, b); e != want {
		t.Fatalf("Write(%d, %d bytes): %d, not %d", n, len(b), e, want)
	}
}

func flushed(t *testing.T, d *Disk, want api.Errno) {
	t.Helper()
	if e := d.Flush(); e != want {
		t.Fatalf("Flush: %d, not %d", e, want)
	}
}

func pends(t *testing.T, d *Disk, want int) {
	t.Helper()
	if got := d.Pending(); got != want {
		t.Errorf("Pending: %d, not %d", got, want)
	}
}

// has: Read and Dump both tell just these blocks.
func has(t *testing.T, d *Disk, want ...[]byte) {
	t.Helper()
	dumps(t, d, want...)
	for n, b := range want {
		if got, e := d.Read(n); e != ok || !bytes.Equal(got, b) {
			t.Errorf("Read(%d): %d, %v, not %v", n, e, got, b)
		}
	}
}

// dumps: Dump tells just these blocks.
func dumps(t *testing.T, d *Disk, want ...[]byte) {
	t.Helper()
	if d.Blocks() != len(want) || !bytes.Equal(d.Dump(), bytes.Join(want, nil)) {
		t.Errorf("Dump of %d blocks: %v, not %v", d.Blocks(), d.Dump(), want)
	}
}

// refusedRead: an error, and no bytes beside it.
func refusedRead(t *testing.T, d *Disk, n int, want api.Errno) {
	t.Helper()
	if got, e := d.Read(n); e != want || len(got) != 0 {
		t.Errorf("Read(%d): %v, %d, not %d", n, got, e, want)
	}
}

// nowhere: numbers that no block of a disk of so many has.
func nowhere(blocks int) []int {
	return []int{-1, -2, -blocks, blocks, blocks + 1, api.MaxBlocks, api.MaxBlocks + 1, math.MaxInt32, math.MinInt32, math.MaxInt, math.MinInt}
}

// wrongBytes: bytes that are no block's.
func wrongBytes() [][]byte {
	return [][]byte{nil, {}, {1}, fill(9)[:api.Sector], fill(9)[1:], fill(9)[:api.Block-1], append(fill(9), 9), append(fill(9), fill(9)...)}
}

// P14.1: the chapter's example.
func TestExample(t *testing.T) {
	d := fresh(t, 1)
	wrote(t, d, 0, fill(1), ok)
	flushed(t, d, ok)
	wrote(t, d, 0, fill(2), ok)
	d.Crash([]bool{false, true})
	has(t, d, sectors(1, 2, 1, 1))
	pends(t, d, 0)
}

// P14.1: how many blocks there may be, and that all are noughts at first.
func TestNew(t *testing.T) {
	for _, n := range []int{1, 2, 3, api.MinBlocks, api.MaxBlocks - 1, api.MaxBlocks} {
		d := fresh(t, n)
		if d.Blocks() != n || d.Pending() != 0 || !bytes.Equal(d.Dump(), make([]byte, 256*n)) {
			t.Errorf("a disk of %d blocks: %d, %d pending", n, d.Blocks(), d.Pending())
		}
		for i := range n {
			if got, e := d.Read(i); e != ok || !bytes.Equal(got, fill(0)) {
				t.Fatalf("Read(%d) of a fresh disk of %d: %d, %v", i, n, e, got)
			}
		}
		refusedRead(t, d, n, errArg)
		flushed(t, d, ok)
	}
	for _, n := range []int{0, -1, -2, -api.MaxBlocks, api.MaxBlocks + 1, 2 * api.MaxBlocks, math.MaxInt32, math.MinInt32, math.MaxInt, math.MinInt} {
		if d, e := New(n); d != nil || e != errArg {
			t.Errorf("New(%d): %v, %d", n, d, e)
		}
	}
}

// P14.1: each disk has its own blocks, its own power and its own fuse.
func TestApart(t *testing.T) {
	a, b := fresh(t, 2), fresh(t, 2)
	wrote(t, a, 1, pattern(1), ok)
	a.Fuse(0)
	flushed(t, a, errDown)
	has(t, b, fill(0), fill(0))
	pends(t, b, 0)
	wrote(t, b, 0, pattern(2), ok)
	b.Crash(bits("1111"))
	dumps(t, a, fill(0), pattern(1))
	pends(t, a, 4)
	refusedRead(t, a, 0, errDown)
	has(t, b, pattern(2), fill(0))
}

// P14.1: a write counts at once, its four sectors pend, and a flush ends that.
func TestWriteFlush(t *testing.T) {
	d := fresh(t, 3)
	wrote(t, d, 1, pattern(1), ok)
	has(t, d, fill(0), pattern(1), fill(0))
	pends(t, d, 4)
	wrote(t, d, 2, pattern(2), ok)
	wrote(t, d, 0, pattern(3), ok)
	has(t, d, pattern(3), pattern(1), pattern(2))
	pends(t, d, 12)
	wrote(t, d, 1, pattern(4), ok)
	wrote(t, d, 1, pattern(4), ok) // the same bytes once more are a write too
	has(t, d, pattern(3), pattern(4), pattern(2))
	pends(t, d, 20)
	flushed(t, d, ok)
	has(t, d, pattern(3), pattern(4), pattern(2))
	pends(t, d, 0)
	flushed(t, d, ok)
	pends(t, d, 0)
	wrote(t, d, 0, fill(0), ok)
	pends(t, d, 4)
	has(t, d, fill(0), pattern(4), pattern(2))
}

// P14.1, P14.2: on the largest disk each block is its own.
func TestLargest(t *testing.T) {
	d := fresh(t, api.MaxBlocks)
	mark := func(n int) []byte { return sectors(byte(n), byte(n>>8), byte(n^0x5A), 7) }
	for n := range api.MaxBlocks {
		wrote(t, d, n, mark(n), ok)
	}
	pends(t, d, 4*api.MaxBlocks)
	flushed(t, d, ok)
	wrote(t, d, api.MaxBlocks-1, fill(9), ok)
	wrote(t, d, 0, fill(9), ok)
	d.Crash(nil)
	dump := d.Dump()
	if len(dump) != 1<<20 {
		t.Fatalf("Dump: %d bytes", len(dump))
	}
	for n := range api.MaxBlocks {
		got, e := d.Read(n)
		if e != ok || !bytes.Equal(got, mark(n)) || !bytes.Equal(dump[256*n:256*n+256], mark(n)) {
			t.Fatalf("block %d: %d, %v", n, e, got)
		}
	}
}

// P14.1: what Read and Write refuse; it changes nothing.
func TestRefused(t *testing.T) {
	for _, blocks := range []int{1, 3} {
		d := fresh(t, blocks)
		wrote(t, d, blocks-1, pattern(1), ok)
		dump := d.Dump()
		for _, n := range nowhere(blocks) {
			refusedRead(t, d, n, errArg)
			wrote(t, d, n, pattern(2), errArg)
			wrote(t, d, n, nil, errArg)
		}
		for _, b := range wrongBytes() {
			for n := range blocks {
				wrote(t, d, n, b, errArg)
			}
		}
		if !bytes.Equal(d.Dump(), dump) {
			t.Errorf("what is refused changed %v", d.Dump())
		}
		pends(t, d, 4)
		d.Crash(bits("11111111"))
		if !bytes.Equal(d.Dump(), dump) {
			t.Errorf("what is refused is kept by a crash: %v", d.Dump())
		}
	}
}

// P14.1: a wrong argument is told as one while the power is off too.
func TestRefusedWhileOff(t *testing.T) {
	d := fresh(t, 2)
	d.Fuse(0)
	flushed(t, d, errDown)
	for _, n := range nowhere(2) {
		refusedRead(t, d, n, errArg)
		wrote(t, d, n, fill(1), errArg)
	}
	for _, b := range wrongBytes() {
		wrote(t, d, 0, b, errArg)
		wrote(t, d, 1, b, errArg)
	}
	refusedRead(t, d, 0, errDown)
	refusedRead(t, d, 1, errDown)
	wrote(t, d, 0, fill(1), errDown)
	wrote(t, d, 1, fill(1), errDown)
	flushed(t, d, errDown)
}

// P14.1: on a nil disk there is nothing.
func TestNil(t *testing.T) {
	var d *Disk
	for _, n := range append(nowhere(1), 0, 1) {
		refusedRead(t, d, n, errArg)
		wrote(t, d, n, fill(1), errArg)
		wrote(t, d, n, nil, errArg)
		d.Fuse(n)
	}
	flushed(t, d, errArg)
	for _, l := range [][]bool{nil, {}, {true}, bits("11111")} {
		d.Crash(l)
	}
	flushed(t, d, errArg)
	if d.Blocks() != 0 || d.Pending() != 0 || len(d.Dump()) != 0 {
		t.Errorf("a nil disk: %d blocks, %d pending, %v", d.Blocks(), d.Pending(), d.Dump())
	}
}

// R1: nothing panics on a disk that New did not make; it has no blocks.
func TestNotMade(t *testing.T) {
	d := &Disk{}
	refusedRead(t, d, 0, errArg)
	wrote(t, d, 0, fill(1), errArg)
	d.Fuse(0)
	d.Crash(bits("1"))
	d.Flush()
	if d.Blocks() != 0 || d.Pending() != 0 || len(d.Dump()) != 0 {
		t.Errorf("a disk of none: %d blocks, %d pending, %v", d.Blocks(), d.Pending(), d.Dump())
	}
}
