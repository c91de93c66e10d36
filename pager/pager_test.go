package pager

import (
	"bytes"
	"encoding/binary"
	"hash/crc32"
	"math"
	"slices"
	"strings"
	"testing"

	"marginalia/api"
	"marginalia/disk"
)

const (
	ok      = api.OK
	errArg  = api.ErrArg
	errFull = api.ErrFull
	errDown = api.ErrDown

	most64 = math.MaxUint64
)

// edges are numbers of blocks and pages that are near to a bound.
var edges = []int{math.MinInt, math.MinInt + 1, -4096, -3, -2, -1, 0, 1, 2, 3, 4, 5, 6, 4092, 4093, 4094, 4095, 4096, 4097, math.MaxInt - 2, math.MaxInt - 1, math.MaxInt}

func fresh(t *testing.T, blocks int) *disk.Disk {
	t.Helper()
	d, e := disk.New(blocks)
	if e != ok {
		t.Fatalf("New(%d): %d", blocks, e)
	}
	return d
}

// fill: a block of one byte.
func fill(c byte) []byte { return bytes.Repeat([]byte{c}, 256) }

// first: the numbers below n.
func first(n int) []int {
	out := make([]int, n)
	for i := range out {
		out[i] = i
	}
	return out
}

// sector is a head's first one as it is said, laid by the library; above is the root and one.
func sector(generation, above, epoch uint64) string {
	b := binary.BigEndian.AppendUint64(nil, generation)
	b = binary.BigEndian.AppendUint64(b, above)
	b = binary.BigEndian.AppendUint64(b, epoch)
	return summed(string(b))
}

// summed: noughts up to the 60th byte, and the sum.
func summed(text string) string {
	b := append([]byte(text), make([]byte, 60-len(text))...)
	return string(binary.BigEndian.AppendUint32(b, crc32.ChecksumIEEE(b)))
}

// laid: a text, flushed into a block; noughts behind it.
func laid(t *testing.T, d *disk.Disk, n int, text string) {
	t.Helper()
	b := make([]byte, 256)
	copy(b, text)
	if e := d.Write(n, b); e != ok {
		t.Fatalf("Write: %d", e)
	}
	if e := d.Flush(); e != ok {
		t.Fatalf("Flush: %d", e)
	}
}

// blockOf: one as it stands.
func blockOf(d *disk.Disk, n int) []byte { return d.Dump()[256*n : 256*n+256] }

func opened(t *testing.T, d *disk.Disk, first, size int) *Pager {
	t.Helper()
	p, e := Open(d, first, size)
	if e != ok || p == nil {
		t.Fatalf("Open(%d, %d): %d", first, size, e)
	}
	return p
}

func refused(t *testing.T, d *disk.Disk, first, size int, want api.Errno) {
	t.Helper()
	if p, e := Open(d, first, size); p != nil || e != want {
		t.Fatalf("Open(%d, %d): %v, %d, not %d", first, size, p, e, want)
	}
}

// takes: so many pages, just these.
func takes(t *testing.T, p *Pager, pages ...int) {
	t.Helper()
	for _, want := range pages {
		if i, e := p.Take(); i != want || e != ok {
			t.Fatalf("Take: %d, %d, not %d", i, e, want)
		}
	}
}

func full(t *testing.T, p *Pager) {
	t.Helper()
	if i, e := p.Take(); i != 0 || e != errFull {
		t.Fatalf("Take: %d, %d, not 0, %d", i, e, errFull)
	}
}

func writes(t *testing.T, p *Pager, i int, b []byte, want api.Errno) {
	t.Helper()
	if e := p.Write(i, b); e != want {
		t.Fatalf("Write(%d, %d bytes): %d, not %d", i, len(b), e, want)
	}
}

func drops(t *testing.T, p *Pager, i int, want api.Errno) {
	t.Helper()
	if e := p.Drop(i); e != want {
		t.Fatalf("Drop(%d): %d, not %d", i, e, want)
	}
}

func commits(t *testing.T, p *Pager, root int, epoch uint64, want api.Errno) {
	t.Helper()
	if e := p.Commit(root, epoch); e != want {
		t.Fatalf("Commit(%d, %d): %d, not %d", root, epoch, e, want)
	}
}

func uses(t *testing.T, p *Pager, l []int, want api.Errno) {
	t.Helper()
	if e := p.Use(l); e != want {
		t.Fatalf("Use(%v): %d, not %d", l, e, want)
	}
}

// reads: a page that is full of one byte.
func reads(t *testing.T, p *Pager, i int, want byte) {
	t.Helper()
	if b, e := p.Read(i); e != ok || !bytes.Equal(b, fill(want)) {
		t.Fatalf("Read(%d): %d bytes, %d, or others than %d", i, len(b), e, want)
	}
}

func unread(t *testing.T, p *Pager, i int, want api.Errno) {
	t.Helper()
	if b, e := p.Read(i); b != nil || e != want {
		t.Fatalf("Read(%d): %d bytes, %d, not %d", i, len(b), e, want)
	}
}

// tells: all that a pager tells of its state, and which pages are used.
func tells(t *testing.T, p *Pager, generation uint64, root int, epoch uint64, used ...int) {
	t.Helper()
	if p.Generation() != generation || p.Root() != root || p.Epoch() != epoch {
		t.Fatalf("Generation %d, Root %d, Epoch %d, not %d, %d, %d", p.Generation(), p.Root(), p.Epoch(), generation, root, epoch)
	}
	if p.Free() != p.Pages()-len(used) {
		t.Fatalf("Free: %d, not %d", p.Free(), p.Pages()-len(used))
	}
	for i := -1; i <= p.Pages(); i++ {
		if b, e := p.Read(i); (e != errArg) != slices.Contains(used, i) || (e == ok) != (len(b) == 256) {
			t.Fatalf("Read(%d): %d bytes, %d; %v are used", i, len(b), e, used)
		}
	}
}

// P19.1: the chapter's example.
func TestExample(t *testing.T) {
	d := fresh(t, 3)
	p := opened(t, d, 0, 3)
	takes(t, p, 0)
	writes(t, p, 0, fill(5), ok)
	commits(t, p, 0, 2, ok)
	tells(t, p, 1, 0, 2, 0)
	tells(t, opened(t, d, 0, 3), 1, 0, 2)
}

// P19.1: there is a region just of 3 blocks or more of the disk.
func TestOpenRegions(t *testing.T) {
	for _, blocks := range []int{1, 2, 3, 4, 5, 4096} {
		d := fresh(t, blocks)
		for _, first := range edges {
			for _, size := range edges {
				is := first >= 0 && first < blocks && size > 2 && size <= blocks && first+size <= blocks
				if !is {
					refused(t, d, first, size, errArg)
					continue
				}
				p := opened(t, d, first, size)
				if p.Pages() != size-2 || p.Free() != size-2 || p.Generation() != 0 || p.Root() != -1 || p.Epoch() != 1 {
					t.Fatalf("of %d blocks from %d on: %d pages", size, first, p.Pages())
				}
			}
		}
	}
}

// P19.1: Open's errors, in their order; no disk, and one that New did not make, have no regions.
func TestOpenErrors(t *testing.T) {
	for _, d := range []*disk.Disk{nil, new(disk.Disk)} {
		for _, first := range edges {
			for _, size := range edges {
				refused(t, d, first, size, errArg)
			}
		}
	}
	d := fresh(t, 4)
	laid(t, d, 2, sector(7, 2, 9))
	d.Fuse(0)
	tells(t, opened(t, d, 1, 3), 0, -1, 1) // the fuse is there, but the power is on
	d.Flush()
	refused(t, d, 1, 2, errArg)
	refused(t, d, 2, 3, errArg)
	refused(t, d, -1, 3, errArg)
	refused(t, d, 1, 3, errDown)
	refused(t, d, 0, 4, errDown)
	d.Crash(nil)
	tells(t, opened(t, d, 1, 3), 0, -1, 1)
	tells(t, opened(t, d, 1, 3), 0, -1, 1)
}

// P19.1: nothing is written by Open, nor by what only asks; no page is used, fresh or dropped then.
func TestOpenWritesNothing(t *testing.T) {
	d := fresh(t, 6)
	laid(t, d, 1, sector(4, 3, 9))
	laid(t, d, 2, "no head")
	laid(t, d, 4, string(fill(4)))
	dump := d.Dump()
	p := opened(t, d, 1, 5)
	tells(t, p, 4, 2, 9)
	for i := range 3 {
		writes(t, p, i, fill(9), errArg)
		drops(t, p, i, errArg)
	}
	p.Undo()
	uses(t, p, []int{1, 2}, ok)
	reads(t, p, 1, 4)
	if !bytes.Equal(d.Dump(), dump) || d.Pending() != 0 {
		t.Error("something was written")
	}
}

// P19.1: heads that are right, and such as are right but for one thing, in a region of 3 pages.
func TestHeads(t *testing.T) {
	none := summed("")
	wrong := func(text string, at int) string { return text[:at] + string(text[at]^1) + text[at+1:] }
	for _, x := range []struct {
		name       string
		heads      [2]string
		generation uint64
		root       int
		epoch      uint64
	}{
		{"noughts", [2]string{}, 0, -1, 1},
		{"noughts with their sum", [2]string{none, none}, 0, -1, 1},
		{"head 0", [2]string{sector(2, 1, 5), ""}, 2, 0, 5},
		{"head 1", [2]string{"", sector(1, 1, 5)}, 1, 0, 5},
		{"head 0 is newer", [2]string{sector(8, 1, 5), sector(7, 2, 6)}, 8, 0, 5},
		{"head 1 is newer", [2]string{sector(8, 1, 5), sector(9, 2, 4)}, 9, 1, 4},
		{"head 0 is far newer", [2]string{sector(1<<63, 1, 5), sector(1, 2, 6)}, 1 << 63, 0, 5},
		{"head 1 is far newer", [2]string{sector(2, 1, 5), sector(1<<40+1, 2, 6)}, 1<<40 + 1, 1, 6},
		{"2^64 - 1", [2]string{sector(most64-1, 1, 5), sector(most64, 2, 6)}, most64, 1, 6},
		{"2^64 - 2", [2]string{sector(most64-1, 1, 5), sector(most64-2, 2, 6)}, most64 - 1, 0, 5},
		{"the generation 0", [2]string{sector(0, 1, 5), ""}, 0, -1, 1},
		{"the generation 0 of head 1", [2]string{"", sector(0, 1, 5)}, 0, -1, 1},
		{"the other head's generation", [2]string{sector(3, 1, 5), ""}, 0, -1, 1},
		{"the other head's generation in head 1", [2]string{"", sector(4, 1, 5)}, 0, -1, 1},
		{"both of the other's", [2]string{sector(3, 1, 5), sector(4, 1, 5)}, 0, -1, 1},
		{"the newer one is the other's", [2]string{sector(9, 1, 5), sector(3, 3, 6)}, 3, 2, 6},
		{"no root", [2]string{sector(6, 0, 5), sector(5, 2, 6)}, 6, -1, 5},
		{"the last page", [2]string{sector(6, 3, 5), ""}, 6, 2, 5},
		{"a page beyond", [2]string{sector(6, 4, 5), ""}, 0, -1, 1},
		{"a page beyond in the newer one", [2]string{sector(6, 4, 5), sector(5, 2, 6)}, 5, 1, 6},
		{"a root of -2", [2]string{sector(6, most64, 5), sector(5, 2, 6)}, 5, 1, 6},
		{"the least root", [2]string{sector(6, 1<<63, 5), sector(5, 2, 6)}, 5, 1, 6},
		{"the greatest root", [2]string{sector(6, 1<<63-1, 5), sector(5, 2, 6)}, 5, 1, 6},
		{"a root that is a page but for its four highest bytes", [2]string{sector(6, 1<<32+1, 5), sector(5, 2, 6)}, 5, 1, 6},
		{"a root that is a page but for its highest byte", [2]string{sector(6, 1<<63+1, 5), sector(5, 2, 6)}, 5, 1, 6},
		{"the epoch 0", [2]string{sector(6, 1, 0), ""}, 6, 0, 0},
		{"the epoch 2^64 - 1", [2]string{sector(6, 1, most64), ""}, 6, 0, most64},
		{"a lower epoch in the newer one", [2]string{sector(6, 1, 2), sector(5, 1, 9)}, 6, 0, 2},
		{"the sum of none", [2]string{sector(6, 1, 5)[:60], sector(5, 2, 6)}, 5, 1, 6},
		{"the sum turned round", [2]string{sector(6, 1, 5)[:60] + "\xFF\xFF\xFF\xFF", sector(5, 2, 6)}, 5, 1, 6},
		{"the sum in the wrong order", [2]string{turned(sector(6, 1, 5)), sector(5, 2, 6)}, 5, 1, 6},
		{"noughts behind", [2]string{summed(sector(6, 1, 5)[:59] + "\x01"), sector(5, 2, 6)}, 5, 1, 6},
		{"wrong in the generation", [2]string{wrong(sector(6, 1, 5), 6), sector(5, 2, 6)}, 5, 1, 6},
		{"both wrong", [2]string{wrong(sector(6, 1, 5), 20), wrong(sector(5, 2, 6), 63)}, 0, -1, 1},
		{"letters", [2]string{strings.Repeat("x", 256), strings.Repeat("\xFF", 256)}, 0, -1, 1},
	} {
		t.Run(x.name, func(t *testing.T) {
			d := fresh(t, 7)
			laid(t, d, 1, x.heads[0])
			laid(t, d, 2, x.heads[1])
			tells(t, opened(t, d, 1, 5), x.generation, x.root, x.epoch)
		})
	}
}

// turned: the sum's bytes, the lowest first.
func turned(text string) string {
	b := []byte(text)
	slices.Reverse(b[60:])
	return string(b)
}

// P19.1: a head is not right, if one of its bytes is another one; nor if a nought of it is none, though the sum is right.
func TestEachByteOfHead(t *testing.T) {
	for n, right := range []string{sector(0x0102030405060708, 2, 0x1112131415161718), sector(0x0102030405060709, 3, 0x2122232425262728)} {
		for at := range 64 {
			for _, change := range []byte{1, 0x80, 0xFF} {
				b := []byte(right)
				b[at] ^= change
				d := fresh(t, 5)
				laid(t, d, n, string(b))
				tells(t, opened(t, d, 0, 5), 0, -1, 1)
				if at >= 24 && at < 60 {
					laid(t, d, n, summed(string(b[:at+1])))
					tells(t, opened(t, d, 0, 5), 0, -1, 1)
				}
			}
		}
	}
}

// P19.1: what stands in a head's other sectors counts for nothing; a head that stands there is none.
func TestOtherSectorsOfHead(t *testing.T) {
	d := fresh(t, 5)
	laid(t, d, 0, sector(6, 1, 5)+sector(8, 2, 7)+strings.Repeat("\xFF", 128))
	tells(t, opened(t, d, 0, 5), 6, 0, 5)
	laid(t, d, 1, strings.Repeat("\x00", 64)+sector(9, 2, 7)+sector(9, 2, 7)+sector(9, 2, 7))
	tells(t, opened(t, d, 0, 5), 6, 0, 5)
	laid(t, d, 2, sector(8, 1, 5))
	laid(t, d, 3, sector(9, 1, 5))
	tells(t, opened(t, d, 0, 5), 6, 0, 5)
	tells(t, opened(t, d, 2, 3), 9, 0, 5)
}

// P19.1: a head is right in one region, and not in a smaller one, for its root is no page of that.
func TestRootByRegion(t *testing.T) {
	d := fresh(t, 4096)
	laid(t, d, 0, sector(2, 4094, 5))
	tells(t, opened(t, d, 0, 4096), 2, 4093, 5)
	tells(t, opened(t, d, 0, 4095), 0, -1, 1)
	laid(t, d, 0, sector(2, 4095, 5))
	tells(t, opened(t, d, 0, 4096), 0, -1, 1)
	laid(t, d, 0, sector(2, 1, 5))
	tells(t, opened(t, d, 0, 3), 2, 0, 5)
	laid(t, d, 0, sector(2, 2, 5))
	tells(t, opened(t, d, 0, 3), 0, -1, 1)
	tells(t, opened(t, d, 0, 4), 2, 1, 5)
}

// P19.1: Take tells the least page that is not used, till there is none.
func TestTake(t *testing.T) {
	p := opened(t, fresh(t, 8), 1, 7)
	takes(t, p, 0, 1, 2)
	drops(t, p, 1, ok)
	drops(t, p, 0, ok)
	takes(t, p, 0, 1, 3, 4)
	tells(t, p, 0, -1, 1, 0, 1, 2, 3, 4)
	full(t, p)
	full(t, p)
	drops(t, p, 4, ok)
	takes(t, p, 4)
	full(t, p)
}

// P19.1: all pages of the greatest region are taken, written and committed.
func TestAllPages(t *testing.T) {
	d := fresh(t, 4096)
	p := opened(t, d, 0, 4096)
	for i := range 4094 {
		takes(t, p, i)
		writes(t, p, i, fill(byte(i%251)), ok)
	}
	full(t, p)
	commits(t, p, 4093, 1, ok)
	full(t, p)
	p = opened(t, d, 0, 4096)
	uses(t, p, first(4094), ok)
	full(t, p)
	for i := range 4094 {
		reads(t, p, i, byte(i%251))
	}
	tells(t, p, 1, 4093, 1, first(4094)...)
}

// P19.1: Read tells a page's bytes as they are, also of one that was taken and not written, and ErrArg of one that is not used.
func TestRead(t *testing.T) {
	d := fresh(t, 6)
	laid(t, d, 4, string(fill(44)))
	p := opened(t, d, 0, 6)
	for _, i := range edges {
		unread(t, p, i, errArg)
	}
	takes(t, p, 0, 1, 2)
	reads(t, p, 0, 0)
	reads(t, p, 2, 44)
	writes(t, p, 2, fill(7), ok)
	reads(t, p, 2, 7)
	reads(t, p, 1, 0)
	unread(t, p, 3, errArg)
	drops(t, p, 1, ok)
	unread(t, p, 1, errArg)
	d.Fuse(0)
	d.Flush()
	unread(t, p, 2, errDown)
	unread(t, p, 1, errArg)
	d.Crash(nil)
	reads(t, p, 2, 44)
	writes(t, p, 2, fill(8), ok) // what only a read was told does not break it
	reads(t, p, 2, 8)
}

// P19.1: Write is of a fresh page, of a block's bytes.
func TestWrite(t *testing.T) {
	d := fresh(t, 6)
	p := opened(t, d, 1, 5)
	uses(t, p, []int{1}, ok)
	takes(t, p, 0)
	for _, i := range edges {
		if i != 0 {
			writes(t, p, i, fill(9), errArg)
		}
	}
	for _, n := range []int{0, 1, 255, 257, 512} {
		writes(t, p, 0, make([]byte, n), errArg)
		writes(t, p, 1, make([]byte, n), errArg)
	}
	writes(t, p, 0, nil, errArg)
	if d.Pending() != 0 || !bytes.Equal(d.Dump(), make([]byte, 6*256)) {
		t.Fatal("what is refused is written")
	}
	any := []byte(strings.Repeat("all 256 bytes are kept as they ar", 8)[:256])
	writes(t, p, 0, any, ok)
	if d.Pending() != 4 || !bytes.Equal(blockOf(d, 3), any) {
		t.Fatal("the page is not written where it stands")
	}
	writes(t, p, 0, fill(2), ok)
	if d.Pending() != 8 || !bytes.Equal(blockOf(d, 3), fill(2)) {
		t.Fatal("the page is not written once more")
	}
	takes(t, p, 2)
	writes(t, p, 2, fill(3), ok)
	reads(t, p, 2, 3)
	reads(t, p, 0, 2)
}

// P19.1: what a drop does to a fresh page, and to a used one.
func TestDrop(t *testing.T) {
	d := fresh(t, 7)
	p := opened(t, d, 0, 7)
	takes(t, p, 0, 1)
	for _, i := range edges {
		if i != 0 && i != 1 {
			drops(t, p, i, errArg)
		}
	}
	drops(t, p, 0, ok)
	drops(t, p, 0, errArg)
	writes(t, p, 0, fill(1), errArg)
	tells(t, p, 0, -1, 1, 1)
	takes(t, p, 0)
	commits(t, p, 0, 1, ok)
	takes(t, p, 2)

	drops(t, p, 0, ok)
	drops(t, p, 0, errArg)
	tells(t, p, 1, 0, 1, 0, 1, 2)
	takes(t, p, 3) // what is dropped is used till the next commit
	drops(t, p, 2, ok)
	drops(t, p, 2, errArg)
	takes(t, p, 2)
	commits(t, p, 0, 1, errArg)
	commits(t, p, 1, 1, ok)
	tells(t, p, 2, 1, 1, 1, 2, 3)
	drops(t, p, 0, errArg)
	takes(t, p, 0, 4)
	full(t, p)
}

// P19.1: Use of lists that may be, behind and ahead of takes and drops.
func TestUse(t *testing.T) {
	d := fresh(t, 6)
	p := opened(t, d, 0, 6)
	for n, l := range [][]int{{}, {0}, {3}, {1, 2}, {2, 1}, {3, 2, 1, 0}, {0, 1, 2, 3}, nil} {
		generation := uint64(n)
		takes(t, p, least(4, p)...)
		uses(t, p, l, ok)
		tells(t, p, generation, -1, 1, l...)
		for i := range 4 {
			writes(t, p, i, fill(1), errArg) // none is fresh
		}
		for _, i := range l {
			drops(t, p, i, ok) // none is dropped
			drops(t, p, i, errArg)
		}
		tells(t, p, generation, -1, 1, l...) // and none was fresh
		uses(t, p, l, ok)
		p.Undo()
		tells(t, p, generation, -1, 1, l...)
		commits(t, p, -1, 1, ok)
		tells(t, p, generation+1, -1, 1, l...)
	}
}

// least: the first page that is not used, if there is one.
func least(pages int, p *Pager) []int {
	for i := range pages {
		if _, e := p.Read(i); e == errArg {
			return []int{i}
		}
	}
	return nil
}

// P19.1: Use of lists that may not be changes nothing: not what is used, fresh and dropped.
func TestUseRefused(t *testing.T) {
	d := fresh(t, 6)
	p := opened(t, d, 0, 6)
	uses(t, p, []int{0, 2}, ok)
	takes(t, p, 1)
	drops(t, p, 2, ok)
	lists := [][]int{{0, 0}, {1, 2, 1}, {3, 2, 1, 0, 3}, {0, 1, 2, 3, 4}, {2, 2, 4}, {4, 2, 2}}
	for _, bad := range []int{-1, 4, math.MinInt, math.MaxInt, -4, 4096} {
		lists = append(lists, []int{bad}, []int{bad, 3, 0}, []int{3, bad, 0}, []int{3, 0, bad})
	}
	for _, l := range lists {
		uses(t, p, l, errArg)
		tells(t, p, 0, -1, 1, 0, 1, 2)
		writes(t, p, 1, fill(1), ok)
		drops(t, p, 2, errArg)
	}
	drops(t, p, 1, ok)
	drops(t, p, 0, ok)
	p.Undo()
	tells(t, p, 0, -1, 1, 0, 2)
}

// P19.1: which roots and epochs may be committed; what is refused changes nothing.
func TestCommitArguments(t *testing.T) {
	for _, root := range edges {
		for _, epoch := range []uint64{0, 1, 6, 7, 8, most64} {
			d := fresh(t, 8)
			laid(t, d, 0, sector(2, 1, 7))
			p := opened(t, d, 0, 8)
			uses(t, p, []int{0, 1, 5}, ok)
			takes(t, p, 2, 3)
			drops(t, p, 1, ok)
			drops(t, p, 3, ok)
			dump := d.Dump()
			if slices.Contains([]int{-1, 0, 2, 5}, root) && epoch >= 7 {
				commits(t, p, root, epoch, ok)
				tells(t, p, 3, root, epoch, 0, 2, 5)
				tells(t, opened(t, d, 0, 8), 3, root, epoch)
				continue
			}
			commits(t, p, root, epoch, errArg)
			tells(t, p, 2, 0, 7, 0, 1, 2, 5)
			writes(t, p, 2, make([]byte, 256), ok)
			drops(t, p, 1, errArg)
			if !bytes.Equal(d.Dump(), dump) || d.Pending() != 4 {
				t.Fatal("what is refused is written, or flushed")
			}
		}
	}
}

// P19.1: what stands on the disk behind each commit: the head of the next generation, noughts behind it, and nothing else is changed.
func TestCommitLays(t *testing.T) {
	d := fresh(t, 8)
	for n := range 8 {
		laid(t, d, n, string(fill(byte(200+n))))
	}
	p := opened(t, d, 1, 6)
	want := d.Dump()
	for generation := uint64(1); generation < 8; generation++ {
		i, _ := p.Take()
		b := fill(byte(generation))
		writes(t, p, i, b, ok)
		commits(t, p, i, 10*generation, ok)
		drops(t, p, i, ok)
		copy(want[256*(3+i):], b)
		h := 256 * (1 + int(generation%2))
		clear(want[h : h+256])
		copy(want[h:], sector(generation, uint64(i+1), 10*generation))
		if !bytes.Equal(d.Dump(), want) || d.Pending() != 0 {
			t.Fatalf("generation %d: the disk", generation)
		}
	}
}

// P19.1: the order of a commit's writes and flushes, as fuses tell it.
func TestCommitOrder(t *testing.T) {
	for fuse := range 5 {
		d := fresh(t, 6)
		p := opened(t, d, 0, 6)
		takes(t, p, 0, 1)
		writes(t, p, 0, fill(3), ok)
		writes(t, p, 1, fill(4), ok)
		d.Fuse(fuse)
		want := ok
		if fuse < 3 {
			want = errDown
		}
		commits(t, p, 1, 9, want)
		isHead := string(blockOf(d, 1)[:64]) == sector(1, 2, 9)
		if pending := []int{8, 0, 4, 0, 0}[fuse]; d.Pending() != pending || isHead != (fuse >= 2) {
			t.Fatalf("fuse %d: %d sectors are pending, not %d; the head: %t", fuse, d.Pending(), pending, isHead)
		}
		if fuse == 3 {
			unreadAfter(t, d, p)
		}
	}
}

// unreadAfter: the power goes at the next write, and not ahead of it.
func unreadAfter(t *testing.T, d *disk.Disk, p *Pager) {
	t.Helper()
	reads(t, p, 0, 3)
	takes(t, p, 2)
	writes(t, p, 2, fill(1), errDown)
	unread(t, p, 0, errDown)
}

// P19.1: a commit makes fresh pages used ones, and dropped ones none; Undo the other way round.
func TestCommitAndUndo(t *testing.T) {
	d := fresh(t, 8)
	p := opened(t, d, 0, 8)
	takes(t, p, 0, 1, 2, 3)
	drops(t, p, 3, ok)
	p.Undo()
	tells(t, p, 0, -1, 1)
	writes(t, p, 0, fill(1), errArg)
	takes(t, p, 0, 1, 2)
	writes(t, p, 1, fill(11), ok)
	commits(t, p, 0, 1, ok)
	p.Undo()
	tells(t, p, 1, 0, 1, 0, 1, 2)

	drops(t, p, 0, ok)
	drops(t, p, 1, ok)
	takes(t, p, 3, 4)
	drops(t, p, 3, ok)
	takes(t, p, 3)
	p.Undo()
	p.Undo()
	tells(t, p, 1, 0, 1, 0, 1, 2)
	writes(t, p, 4, fill(1), errArg)
	drops(t, p, 0, ok) // it is not dropped any more
	takes(t, p, 3)
	commits(t, p, 2, 1, ok)
	tells(t, p, 2, 2, 1, 1, 2, 3)
	writes(t, p, 3, fill(1), errArg)
	takes(t, p, 0, 4)
	drops(t, p, 3, ok)
	tells(t, p, 2, 2, 1, 0, 1, 2, 3, 4) // it is not fresh any more
	reads(t, p, 1, 11)
	p.Undo()
	tells(t, p, 2, 2, 1, 1, 2, 3)
}

// P19.1: a commit of nothing is one more generation.
func TestCommitOfNothing(t *testing.T) {
	d := fresh(t, 3)
	p := opened(t, d, 0, 3)
	for generation := uint64(1); generation < 6; generation++ {
		commits(t, p, -1, 1, ok)
		tells(t, p, generation, -1, 1)
		tells(t, opened(t, d, 0, 3), generation, -1, 1)
	}
}

// P19.1: behind the generation 2^64 - 1 there is none; what was fresh and dropped is so still.
func TestLastGeneration(t *testing.T) {
	d := fresh(t, 7)
	laid(t, d, 1, sector(most64-1, 0, 1))
	p := opened(t, d, 1, 5)
	takes(t, p, 0, 1)
	commits(t, p, 0, 2, ok)
	tells(t, p, most64, 0, 2, 0, 1)
	drops(t, p, 0, ok)
	takes(t, p, 2)
	dump := d.Dump()
	commits(t, p, 0, 2, errArg)
	commits(t, p, 2, 1, errArg)
	commits(t, p, 2, 2, errFull)
	commits(t, p, -1, most64, errFull)
	tells(t, p, most64, 0, 2, 0, 1, 2)
	if !bytes.Equal(d.Dump(), dump) || d.Pending() != 0 {
		t.Fatal("what is refused is written")
	}
	drops(t, p, 0, errArg)
	writes(t, p, 2, fill(1), ok)
	p.Undo()
	tells(t, p, most64, 0, 2, 0, 1)
	tells(t, opened(t, d, 1, 5), most64, 0, 2)
	takes(t, p, 2)
	d.Fuse(0)
	commits(t, p, 2, 2, errFull)
	writes(t, p, 2, fill(1), errDown)
	commits(t, p, 1, 1, errArg)
	commits(t, p, 2, 2, errDown) // that it is broken is asked ahead of the generation
}

// P19.1: a pager that is broken by a write writes nothing any more, behind a crash too; what needs no disk goes on.
func TestBrokenByWrite(t *testing.T) {
	d := fresh(t, 7)
	p := opened(t, d, 0, 7)
	takes(t, p, 0, 1)
	writes(t, p, 0, fill(1), ok)
	commits(t, p, 0, 3, ok)
	takes(t, p, 2)
	d.Fuse(0)
	writes(t, p, 2, fill(2), errDown)
	for range 2 {
		tells(t, p, 1, 0, 3, 0, 1, 2)
		writes(t, p, 2, fill(2), errDown)
		writes(t, p, 2, fill(2)[:255], errArg)
		writes(t, p, 1, fill(2), errArg)
		commits(t, p, 3, 3, errArg)
		commits(t, p, 2, 2, errArg)
		commits(t, p, 2, 3, errDown)
		takes(t, p, 3)
		drops(t, p, 3, ok)
		drops(t, p, 1, ok)
		p.Undo()
		tells(t, p, 1, 0, 3, 0, 1)
		takes(t, p, 2)
		uses(t, p, []int{0, 1}, ok)
		takes(t, p, 2)
		d.Crash(nil)
	}
	reads(t, p, 0, 1)
	if string(blockOf(d, 1)[:64]) != sector(1, 1, 3) || !bytes.Equal(blockOf(d, 0), fill(0)) || !bytes.Equal(blockOf(d, 4), fill(0)) {
		t.Fatal("a broken pager writes")
	}
	tells(t, opened(t, d, 0, 7), 1, 0, 3)
}

// P19.1: so is one that is broken by a commit, at each of its writes and flushes; its state, and what is fresh and dropped, stay.
func TestBrokenByCommit(t *testing.T) {
	for fuse := range 3 {
		d := fresh(t, 7)
		p := opened(t, d, 0, 7)
		takes(t, p, 0, 1)
		commits(t, p, 0, 3, ok)
		takes(t, p, 2, 3)
		drops(t, p, 0, ok)
		d.Fuse(fuse)
		commits(t, p, 2, 4, errDown)
		d.Crash(nil)
		tells(t, p, 1, 0, 3, 0, 1, 2, 3)
		dump := d.Dump()
		commits(t, p, 2, 4, errDown)
		writes(t, p, 3, fill(1), errDown)
		writes(t, p, 1, fill(1), errArg)
		drops(t, p, 0, errArg)
		p.Undo()
		tells(t, p, 1, 0, 3, 0, 1)
		commits(t, p, 1, 3, errDown)
		if !bytes.Equal(d.Dump(), dump) || d.Pending() != 0 {
			t.Fatalf("fuse %d: a broken pager writes", fuse)
		}
	}
}

// P19.1: a pager whose disk has no power is broken only by a write or a flush.
func TestNotBrokenByOthers(t *testing.T) {
	d := fresh(t, 5)
	p := opened(t, d, 0, 5)
	takes(t, p, 0)
	d.Fuse(0)
	d.Flush()
	refused(t, d, 0, 5, errDown)
	unread(t, p, 0, errDown)
	writes(t, p, 0, fill(1)[:200], errArg)
	commits(t, p, 1, 1, errArg)
	takes(t, p, 1)
	drops(t, p, 1, ok)
	d.Crash(nil)
	writes(t, p, 0, fill(1), ok)
	commits(t, p, 0, 1, ok)
	tells(t, opened(t, d, 0, 5), 1, 0, 1)
}

// P19.1: a region in the middle of a disk: the blocks beside it stay as they are.
func TestMiddleOfDisk(t *testing.T) {
	d := fresh(t, 12)
	for n := range 12 {
		laid(t, d, n, string(fill(byte(100+n))))
	}
	p := opened(t, d, 4, 5)
	for i := range 30 {
		for p.Free() > 0 {
			k, _ := p.Take()
			writes(t, p, k, fill(byte(i)), ok)
		}
		commits(t, p, i%3, uint64(i+1), ok)
		uses(t, p, []int{i % 3}, ok)
		drops(t, p, i%3, ok)
		full := opened(t, d, 4, 5)
		uses(t, full, first(3), ok)
		tells(t, full, uint64(i+1), i%3, uint64(i+1), 0, 1, 2)
		for _, n := range []int{0, 1, 2, 3, 9, 10, 11} {
			if !bytes.Equal(blockOf(d, n), fill(byte(100+n))) {
				t.Fatalf("block %d is written", n)
			}
		}
	}
}

// P19.1: two pagers beside each other, on one disk: the calls on the one change nothing of the other, but for the power.
func TestTwoPagers(t *testing.T) {
	d := fresh(t, 10)
	a, b := opened(t, d, 0, 5), opened(t, d, 5, 5)
	takes(t, a, 0, 1)
	takes(t, b, 0)
	writes(t, a, 1, fill(1), ok)
	writes(t, b, 0, fill(2), ok)
	commits(t, a, 1, 5, ok)
	tells(t, a, 1, 1, 5, 0, 1)
	tells(t, b, 0, -1, 1, 0)
	commits(t, b, 0, 6, ok)
	commits(t, b, 0, 7, ok)
	takes(t, a, 2)
	tells(t, a, 1, 1, 5, 0, 1, 2)
	tells(t, b, 2, 0, 7, 0)
	reads(t, a, 1, 1)
	reads(t, b, 0, 2)
	d.Fuse(0)
	commits(t, a, 1, 5, errDown)
	d.Crash(nil)
	commits(t, a, 1, 5, errDown)
	commits(t, b, 0, 8, ok)
	tells(t, opened(t, d, 0, 5), 1, 1, 5)
	tells(t, opened(t, d, 5, 5), 3, 0, 8)
}

// P19.1: of two pagers of one region each keeps its own account.
func TestTwoPagersOfOneRegion(t *testing.T) {
	d := fresh(t, 5)
	a, b := opened(t, d, 0, 5), opened(t, d, 0, 5)
	takes(t, a, 0, 1)
	takes(t, b, 0)
	drops(t, b, 0, ok)
	tells(t, a, 0, -1, 1, 0, 1)
	tells(t, b, 0, -1, 1)
	commits(t, a, 1, 5, ok)
	tells(t, b, 0, -1, 1)
	tells(t, opened(t, d, 0, 5), 1, 1, 5)
}

// P19.1: a nil pager, and one that Open did not make.
func TestNil(t *testing.T) {
	for _, p := range []*Pager{nil, new(Pager)} {
		if p.Pages() != 0 || p.Generation() != 0 || p.Root() != -1 || p.Epoch() != 0 || p.Free() != 0 {
			t.Errorf("it tells something")
		}
		for _, i := range edges {
			unread(t, p, i, errArg)
			writes(t, p, i, fill(1), errArg)
			drops(t, p, i, errArg)
			uses(t, p, []int{i}, errArg)
			if i != -1 {
				commits(t, p, i, 1, errArg)
			}
		}
		if i, e := p.Take(); i != 0 || e == ok {
			t.Errorf("Take: %d, %d", i, e)
		}
		p.Undo()
	}
	var p *Pager
	uses(t, p, nil, errArg)
	commits(t, p, -1, 0, errArg)
	commits(t, p, -1, most64, errArg)
	if _, e := p.Take(); e != errArg {
		t.Errorf("Take: %d", e)
	}
	if e := new(Pager).Commit(-1, 0); e == ok {
		t.Error("a pager without a disk commits")
	}
}
