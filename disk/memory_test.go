package disk

import (
	"bytes"
	"slices"
	"testing"

	"marginalia/api"
)

// spoil: another byte at each place, in the room behind the end too.
func spoil(b []byte) {
	b = b[:cap(b)]
	for i := range b {
		b[i] ^= 0xFF
	}
}

// roomy: a block's bytes with room behind, where something lies.
func roomy(k int) (b, whole []byte) {
	whole = append(pattern(k), bytes.Repeat([]byte{77}, 100)...)
	return whole[:api.Block], whole
}

// R4: bytes that are written stay as they were, and are not kept: not as what is read, not as what a crash keeps or undoes.
func TestBytesHandedIn(t *testing.T) {
	for _, keep := range []string{"", "1111", "11111111", "00001111", "0101"} {
		d := fresh(t, 1)
		first, firstWhole := roomy(1)
		later, laterWhole := roomy(2)
		ahead := slices.Clone(firstWhole)
		wrote(t, d, 0, first, ok)
		flushed(t, d, ok)
		spoil(first)
		has(t, d, pattern(1))
		spoil(first)
		wrote(t, d, 0, later, ok)
		wrote(t, d, 0, first, ok)
		if !bytes.Equal(firstWhole, ahead) {
			t.Errorf("what was handed in is now %v", firstWhole)
		}
		spoil(first)
		spoil(later)
		has(t, d, pattern(1))
		d.Crash(bits(keep))
		want := pattern(1)
		if keep == "1111" {
			want = pattern(2)
		}
		if keep == "0101" {
			copy(want[64:128], pattern(2)[64:])
			copy(want[192:], pattern(2)[192:])
		}
		has(t, d, want)
		spoil(laterWhole)
		if !bytes.Equal(laterWhole, append(pattern(2), bytes.Repeat([]byte{77}, 100)...)) {
			t.Errorf("what was handed in is now %v", laterWhole)
		}
	}
}

// R4: the bytes of a write that is refused stay too.
func TestRefusedBytesStay(t *testing.T) {
	d := fresh(t, 1)
	d.Fuse(0)
	for range 2 {
		b, whole := roomy(1)
		ahead := slices.Clone(whole)
		d.Write(1, b)
		d.Write(0, b[1:])
		d.Write(0, whole)
		d.Write(0, b)
		if !bytes.Equal(whole, ahead) {
			t.Errorf("what was handed in is now %v", whole)
		}
	}
}

// R4: the list of a crash stays as it was; what lies in the room behind its end is not read; it is not kept.
func TestListHandedIn(t *testing.T) {
	d := fresh(t, 1)
	wrote(t, d, 0, fill(1), ok)
	wrote(t, d, 0, fill(2), ok)
	whole := bits("0110" + "1111" + "1111")
	ahead := slices.Clone(whole)
	d.Crash(whole[:4])
	has(t, d, sectors(0, 1, 1, 0))
	if !slices.Equal(whole, ahead) {
		t.Errorf("the list is now %v", whole)
	}
	for i := range whole {
		whole[i] = true
	}
	has(t, d, sectors(0, 1, 1, 0))
	wrote(t, d, 0, fill(3), ok)
	d.Crash(nil)
	has(t, d, sectors(0, 1, 1, 0))
}

// R4: what Read and Dump tell is new memory, its room too, at each call: changing it changes nothing of the disk, nor of what else was told.
func TestToldIsOwn(t *testing.T) {
	d := fresh(t, 2)
	wrote(t, d, 0, pattern(1), ok)
	flushed(t, d, ok)
	wrote(t, d, 0, pattern(2), ok)
	wrote(t, d, 1, pattern(3), ok)
	a, _ := d.Read(0)
	b, _ := d.Read(1)
	again, _ := d.Read(0)
	dump, dumpAgain := d.Dump(), d.Dump()
	spoil(a)
	spoil(dump)
	if !bytes.Equal(again, pattern(2)) || !bytes.Equal(b, pattern(3)) || !bytes.Equal(dumpAgain, append(pattern(2), pattern(3)...)) {
		t.Error("what was told is shared")
	}
	has(t, d, pattern(2), pattern(3))
	d.Crash(bits("00001111"))
	has(t, d, pattern(1), pattern(3))
	if !bytes.Equal(again, pattern(2)) || !bytes.Equal(dumpAgain, append(pattern(2), pattern(3)...)) {
		t.Error("what was told is changed by a crash")
	}
	spoil(again)
	spoil(b)
	spoil(dumpAgain)
	has(t, d, pattern(1), pattern(3))
	wrote(t, d, 1, pattern(4), ok)
	d.Crash(nil)
	has(t, d, pattern(1), pattern(3))
}

// R4: what was told stays as it was told, whatever is written behind; so does what is told while the power is off.
func TestToldStays(t *testing.T) {
	d := fresh(t, 1)
	wrote(t, d, 0, pattern(1), ok)
	read, _ := d.Read(0)
	dump := d.Dump()
	wrote(t, d, 0, pattern(2), ok)
	d.Fuse(0)
	flushed(t, d, errDown)
	off := d.Dump()
	spoil(d.Dump())
	dumps(t, d, pattern(2))
	d.Crash(bits("1111"))
	has(t, d, pattern(1))
	if !bytes.Equal(read, pattern(1)) || !bytes.Equal(dump, pattern(1)) || !bytes.Equal(off, pattern(2)) {
		t.Errorf("what was told is now %v, %v, %v", read, dump, off)
	}
}

// R4: what was read may be written again, there and elsewhere.
func TestWriteWhatWasRead(t *testing.T) {
	d := fresh(t, 2)
	wrote(t, d, 0, pattern(1), ok)
	b, _ := d.Read(0)
	wrote(t, d, 1, b, ok)
	b[0]++
	wrote(t, d, 0, b, ok)
	wrote(t, d, 1, d.Dump()[:api.Block], ok)
	want := pattern(1)
	want[0]++
	has(t, d, want, want)
	d.Crash(bits("11111111"))
	has(t, d, pattern(1), pattern(1))
}
