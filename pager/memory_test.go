package pager

import (
	"bytes"
	"slices"
	"testing"
)

// spoil: another byte at each place, in the room behind the end too.
func spoil(b []byte) {
	b = b[:cap(b)]
	for i := range b {
		b[i] ^= 0xFF
	}
}

// roomy: a list with room behind, where something lies.
func roomy(l ...int) (list, whole []int) {
	whole = append(slices.Clone(l), 2, 77, -5, 77, 0)
	return whole[:len(l)], whole
}

// roomyBytes: likewise, a block.
func roomyBytes(c byte, n int) (b, whole []byte) {
	whole = append(bytes.Repeat([]byte{c}, n), bytes.Repeat([]byte{77}, 300)...)
	return whole[:n], whole
}

// R4: a list that is handed in stays as it was, room and all, whether it is taken or refused, and whatever is done behind it.
func TestListStays(t *testing.T) {
	for _, l := range [][]int{{}, {3}, {0, 1, 2}, {5, 3, 1}, {2, 0, 5, 4, 1, 3}, {1, 1}, {4, 6}, {-1, 2}, {5, 4, 3, 2, 1, 0, 0}} {
		list, whole := roomy(l...)
		was := slices.Clone(whole)
		p := opened(t, fresh(t, 8), 0, 8)
		for range 2 {
			p.Use(list)
			p.Take()
			p.Drop(0)
			p.Drop(3)
			p.Commit(-1, 1)
			p.Take()
			p.Undo()
		}
		if !slices.Equal(whole, was) {
			t.Errorf("Use: %v was handed in, now it is %v", was, whole)
		}
	}
}

// R4: nothing is kept of a list: writing into it later, its room too, changes nothing.
func TestListIsNotKept(t *testing.T) {
	for _, l := range [][]int{{}, {3}, {0, 1, 2}, {5, 3, 1}, {2, 0, 5, 4, 1, 3}} {
		p := opened(t, fresh(t, 8), 0, 8)
		list, whole := roomy(l...)
		uses(t, p, list, ok)
		for i := range whole {
			whole[i] = 4
		}
		tells(t, p, 0, -1, 1, l...)
		p.Take()
		p.Undo()
		tells(t, p, 0, -1, 1, l...)
		list, whole = roomy(0, 0)
		uses(t, p, list, errArg)
		clear(whole)
		tells(t, p, 0, -1, 1, l...)
	}
}

// R4: bytes that are handed in stay as they were, room and all, and are not kept.
func TestBytesHandedIn(t *testing.T) {
	for _, n := range []int{0, 255, 256, 257} {
		d := fresh(t, 5)
		p := opened(t, d, 0, 5)
		takes(t, p, 0, 1)
		b, whole := roomyBytes(5, n)
		was := slices.Clone(whole)
		for i := range 3 {
			p.Write(i, b)
		}
		p.Commit(0, 1)
		p.Write(0, b)
		if !bytes.Equal(whole, was) {
			t.Fatalf("%d bytes that were handed in are now others", n)
		}
		dump := d.Dump()
		spoil(whole)
		if !bytes.Equal(d.Dump(), dump) {
			t.Fatalf("%d bytes that were handed in are kept", n)
		}
		if n == 256 {
			reads(t, p, 0, 5)
			reads(t, p, 1, 5)
		}
	}
	d := fresh(t, 5)
	p := opened(t, d, 0, 5)
	takes(t, p, 0)
	d.Fuse(0)
	b, whole := roomyBytes(5, 256)
	was := slices.Clone(whole)
	writes(t, p, 0, b, errDown)
	writes(t, p, 0, b, errDown)
	if !bytes.Equal(whole, was) {
		t.Fatal("bytes that were refused are now others")
	}
}

// R4: what is read is the caller's alone, its room too: writing into it changes nothing of the page, nor of what else was read.
func TestReadIsOwn(t *testing.T) {
	d := fresh(t, 6)
	p := opened(t, d, 0, 6)
	takes(t, p, 0, 1)
	writes(t, p, 0, fill(5), ok)
	writes(t, p, 1, fill(6), ok)
	dump := d.Dump()
	for range 3 {
		a, _ := p.Read(0)
		b, _ := p.Read(0)
		spoil(a)
		if !bytes.Equal(b, fill(5)) || !bytes.Equal(d.Dump(), dump) {
			t.Fatal("what is read is shared")
		}
		reads(t, p, 0, 5)
		reads(t, p, 1, 6)
	}
	a, _ := p.Read(0)
	takes(t, p, 2)
	writes(t, p, 2, a, ok) // what was told may be handed in
	spoil(a)
	reads(t, p, 2, 5)
	b, _ := p.Read(2)
	writes(t, p, 2, fill(7), ok)
	commits(t, p, 2, 1, ok)
	d.Crash(nil)
	if !bytes.Equal(b, fill(5)) {
		t.Fatal("what was read is now another one")
	}
}

// R4: a pager goes on from its own account of the heads: writing into what the disk tells changes no pager.
func TestDiskToldIsNotKept(t *testing.T) {
	d := fresh(t, 5)
	laid(t, d, 0, sector(6, 1, 5))
	b, _ := d.Read(0)
	p := opened(t, d, 0, 5)
	spoil(b)
	tells(t, p, 6, 0, 5)
	laid(t, d, 0, "")
	tells(t, p, 6, 0, 5)
	commits(t, p, -1, 5, ok)
	tells(t, opened(t, d, 0, 5), 7, -1, 5)
}
