package cell

import (
	"bytes"
	"slices"
	"testing"

	"marginalia/api"
)

// spoil: another byte at each place, in the room behind the end too.
func spoil(b []byte) {
	b = b[:cap(b)]
	for i := range b {
		b[i] ^= 0xFF
	}
}

// roomy: bytes with room behind, where something lies; and all of it.
func roomy(b []byte) (in, whole []byte) {
	whole = append(slices.Clone(b), bytes.Repeat([]byte("room"), 50)...)
	return whole[:len(b)], whole
}

// copied: the cells with Data of their own.
func copied(l []api.Cell) []api.Cell {
	out := slices.Clone(l)
	for i := range out {
		out[i].Data = slices.Clone(out[i].Data)
	}
	return out
}

// R4: Encode: Data stays, and what was told stays when Data is changed, and the other way round.
func TestEncodeMemory(t *testing.T) {
	for size := range 42 {
		c := chance(size)
		was := c.bytes(size)
		in, whole := roomy(was)
		ahead := slices.Clone(whole)
		x := api.Cell{Epoch: 1, Life: 2, Part: 3, Of: 4, Data: in}
		b, e := Encode(x)
		again, _ := Encode(x)
		want, f := saidEncode(x)
		if e != f || !bytes.Equal(whole, ahead) {
			t.Errorf("%d bytes: %d; Data is now %v", size, e, whole)
		}
		spoil(whole)
		if !bytes.Equal(b, want) {
			t.Errorf("behind a change of Data: %v, not %v", b, want)
		}
		spoil(whole)
		spoil(b)
		if !bytes.Equal(again, want) || !bytes.Equal(whole, ahead) {
			t.Errorf("behind a change of what was told: %v, %v", again, whole)
		}
	}
}

// R4: Decode: the bytes stay, what lies behind them is not read, and what was told shares nothing with them.
func TestDecodeMemory(t *testing.T) {
	for _, c := range cells() {
		b, _ := saidEncode(c)
		in, whole := roomy(b)
		ahead := slices.Clone(whole)
		x, _ := Decode(in)
		again, _ := Decode(in)
		noCell(t, in[:63])
		noCell(t, whole[:65])
		noCell(t, whole)
		if !bytes.Equal(whole, ahead) {
			t.Errorf("the bytes are now %v", whole)
		}
		spoil(whole)
		if !same(x, c) {
			t.Errorf("behind a change of the bytes: %v, not %v", x, c)
		}
		spoil(whole)
		spoil(x.Data)
		if !same(again, c) || !bytes.Equal(whole, ahead) {
			t.Errorf("behind a change of what was told: %v, %v", again, whole)
		}
		decodes(t, in, c, ok)
	}
}

// R4: Cut: the record stays, and no Data shares anything with it or another Data, its room too.
func TestCutMemory(t *testing.T) {
	for _, n := range []int{0, 1, 38, 39, 40, 77, 78, 79, 117, 400} {
		c := chance(n)
		was := c.bytes(n)
		in, whole := roomy(was)
		ahead := slices.Clone(whole)
		l, again := Cut(in, 5, 6), Cut(in, 5, 6)
		want := saidCut(was, 5, 6)
		if !bytes.Equal(whole, ahead) {
			t.Errorf("the record is now %q", whole)
		}
		spoil(whole)
		if !sameList(l, want) {
			t.Errorf("behind a change of the record: %v, not %v", l, want)
		}
		spoil(whole)
		for i := range l {
			spoil(l[i].Data)
			if !sameList(l[:i], want[:i]) || !sameList(l[i+1:], want[i+1:]) {
				t.Errorf("a change of the cell %d changes others", i)
			}
			spoil(l[i].Data)
		}
		for i := range l {
			spoil(append(l[i].Data, "more"...))
		}
		l = append(l, api.Cell{})
		clear(l[:cap(l)])
		if !sameList(again, want) || !bytes.Equal(whole, ahead) {
			t.Errorf("behind a change of what was told: %v, %q", again, whole)
		}
	}
}

// R4: Join: the list and its Data stay, what lies behind their ends is not read, and what was told shares nothing with them.
func TestJoinMemory(t *testing.T) {
	for many := 1; many <= 4; many++ {
		was, l := record(many)
		var wholes [][]byte
		for i := range l {
			in, whole := roomy(l[i].Data)
			l[i].Data = in
			wholes = append(wholes, whole)
		}
		list := append(copied(l), api.Cell{Part: many, Of: many + 1, Data: []byte("behind")})
		for i := range l {
			list[i].Data = l[i].Data
		}
		ahead, wholesAhead := copied(list), slices.Clone(wholes)
		for i := range wholesAhead {
			wholesAhead[i] = slices.Clone(wholes[i])
		}
		b, is := Join(list[:many])
		again, _ := Join(list[:many])
		noRecord(t, list)
		stays := func() bool {
			return sameList(list, ahead) && slices.EqualFunc(wholes, wholesAhead, bytes.Equal)
		}
		if !is || !stays() {
			t.Errorf("%d cells: %t; they are now %v", many, is, list)
		}
		for _, w := range wholes {
			spoil(w)
		}
		if !bytes.Equal(b, was) {
			t.Errorf("behind a change of the cells: %q, not %q", b, was)
		}
		for _, w := range wholes {
			spoil(w)
		}
		spoil(b)
		if !bytes.Equal(again, was) || !stays() {
			t.Errorf("behind a change of what was told: %q, %v", again, list)
		}
	}
}

// R2, R5: what is refused stays as it was, and each call is answered alike, whatever was asked ahead.
func TestAnsweredAlike(t *testing.T) {
	wrong := api.Cell{Part: 1, Of: 1, Data: []byte("x")}
	b, l := record(3)
	other := copied(l)
	other[1].Life++
	ahead := copied(other)
	right, _ := saidEncode(l[1])
	spoilt := slices.Clone(right)
	spoilt[30] ^= 1
	for range 3 {
		encodes(t, wrong, nil, errArg)
		encodes(t, l[1], right, ok)
		noCell(t, spoilt)
		decodes(t, right, l[1], ok)
		noRecord(t, other)
		joinsTo(t, l, b)
		cuts(t, nil, 5, 6, nil)
		cuts(t, b, 5, 6, l)
	}
	if string(wrong.Data) != "x" || !sameList(other, ahead) {
		t.Errorf("what was refused is now %v, %v", wrong, other)
	}
}
