package wal

import (
	"bytes"
	"slices"
	"strings"
	"testing"

	"marginalia/api"
)

// spoil: another byte at each place, in the room behind the end too.
func spoil(b []byte) {
	b = b[:cap(b)]
	for i := range b {
		b[i] ^= 0xFF
	}
}

// roomy: a record's bytes with room behind, where something lies.
func roomy(n int) (b, whole []byte) {
	whole = append(letters(n), bytes.Repeat([]byte{77}, 100)...)
	return whole[:n], whole
}

// R4: a record that is handed in stays as it was, and is not kept: not as what the log tells, not as what stands on the disk.
func TestRecordHandedIn(t *testing.T) {
	for _, n := range []int{1, 38, 39, 40, 100, 156} {
		d := fresh(t, 2)
		l := opened(t, d, 0, 2, 5)
		b, whole := roomy(n)
		ahead := slices.Clone(whole)
		appended(t, l, b, ok)
		if !bytes.Equal(whole, ahead) {
			t.Fatalf("what was handed in is now %v", whole)
		}
		spoil(b)
		spoiled := slices.Clone(whole)
		want := string(letters(n))
		room := 39 * (8 - (n+38)/39)
		tells(t, l, 5, 1, room, want)
		stands(t, d, pieces(want, 5, 1))
		appended(t, l, []byte("x"), ok)
		synced(t, l, ok)
		begun(t, l, 6, ok)
		if !bytes.Equal(whole, spoiled) {
			t.Fatalf("what was handed in is now %v", whole)
		}
		tells(t, opened(t, d, 0, 2, 5), 5, 2, room-39, want, "x")
	}
}

// R4: a record that is refused stays as it was, too.
func TestRefusedRecordStays(t *testing.T) {
	d := fresh(t, 1)
	l := opened(t, d, 0, 1, 5)
	for _, n := range []int{0, 157, 6000, 6001} {
		b, whole := roomy(n)
		ahead := slices.Clone(whole)
		if l.Append(b) == ok || !bytes.Equal(whole, ahead) {
			t.Errorf("%d bytes are appended, or changed", n)
		}
	}
	d.Fuse(0)
	for range 2 {
		b, whole := roomy(100)
		ahead := slices.Clone(whole)
		appended(t, l, b, errDown)
		if !bytes.Equal(whole, ahead) {
			t.Errorf("what was handed in is now %v", whole)
		}
	}
}

// R4: what is told is new memory, its room too, at each call: writing into it changes nothing of the log, nor of what else was told.
func TestToldIsOwn(t *testing.T) {
	d := fresh(t, 3)
	l := opened(t, d, 0, 3, 5)
	want := []string{"a", string(letters(100)), "c", string(letters(40))}
	for _, text := range want {
		appended(t, l, []byte(text), ok)
	}
	for _, l := range []*Log{l, opened(t, d, 0, 3, 5)} {
		for i := range want {
			told, other := l.Records(), l.Records()
			spoil(told[i])
			for k, text := range want {
				if string(other[k]) != text || k != i && string(told[k]) != text {
					t.Fatalf("the record %d is shared with %d", i, k)
				}
			}
			tells(t, l, 5, l.Life(), 39*5, want...)
			clear(told[:cap(told)])
			tells(t, l, 5, l.Life(), 39*5, want...)
		}
	}
	tells(t, opened(t, d, 0, 3, 5), 5, 2, 39*5, want...)
}

// P17.1 (ways): what stands behind a list is never written over: what is appended to a record that was told, or to the list of them, is nobody else's.
func TestNothingIsWrittenOver(t *testing.T) {
	l := opened(t, fresh(t, 3), 0, 3, 5)
	want := []string{"a", string(letters(50)), "c"}
	for _, text := range want {
		appended(t, l, []byte(text), ok)
	}
	for i := range want {
		told := l.Records()
		longer := append(told[i], strings.Repeat("!", 60)...)
		if string(longer) != want[i]+strings.Repeat("!", 60) || !slices.Equal(texts(told), want) {
			t.Fatalf("behind the record %d: %q", i, told)
		}
		more := append(told, []byte("more"))
		other := append(told, []byte("other"))
		if string(more[3]) == string(other[3]) && cap(told) > len(told) {
			t.Fatal("the list has room behind it that is shared")
		}
		tells(t, l, 5, 1, 39*8, want...)
		appended(t, opened(t, fresh(t, 1), 0, 1, 5), longer, ok)
	}
	appended(t, l, []byte("d"), ok)
	tells(t, l, 5, 1, 39*7, "a", string(letters(50)), "c", "d")
}

// R4: what was told stays as it was told when the log goes on, is begun anew, and breaks.
func TestToldStays(t *testing.T) {
	d := fresh(t, 2)
	l := opened(t, d, 0, 2, 5)
	var told [][][]byte
	var want [][]string
	tell := func() {
		told = append(told, l.Records())
		want = append(want, texts(l.Records()))
	}
	tell()
	for _, text := range []string{"a", "bc", string(letters(60)), "d"} {
		appended(t, l, []byte(text), ok)
		tell()
	}
	synced(t, l, ok)
	begun(t, l, 6, ok)
	tell()
	for _, text := range []string{"A", "BC", strings.Repeat("?", 60)} {
		appended(t, l, []byte(text), ok)
		tell()
	}
	d.Fuse(0)
	appended(t, l, []byte("X"), errDown)
	tell()
	d.Crash(nil)
	l = opened(t, d, 0, 2, 6)
	appended(t, l, []byte("Y"), ok)
	tell()
	for i := range told {
		if !slices.Equal(texts(told[i]), want[i]) {
			t.Errorf("what was told at %d is now %q, not %q", i, told[i], want[i])
		}
	}
}

// R4: a record that was told may be appended again, to the log that told it and to another.
func TestAppendWhatWasTold(t *testing.T) {
	d := fresh(t, 2)
	l := opened(t, d, 0, 1, 5)
	appended(t, l, []byte("ab"), ok)
	told := l.Records()
	appended(t, l, told[0], ok)
	appended(t, l, append(told[0], 'c'), ok)
	other := opened(t, d, 1, 1, 5)
	appended(t, other, told[0], ok)
	spoil(told[0])
	tells(t, l, 5, 1, 39, "ab", "ab", "abc")
	tells(t, other, 5, 1, 117, "ab")
}

// R4: a log goes on from what stands on the disk, not from what a disk tells: writing into a dump or a block that was read changes no log.
func TestDiskToldIsNotKept(t *testing.T) {
	d := fresh(t, 1)
	l := opened(t, d, 0, 1, 5)
	appended(t, l, []byte("a"), ok)
	b, _ := d.Read(0)
	dump := d.Dump()
	l = opened(t, d, 0, 1, 5)
	spoil(b)
	spoil(dump)
	tells(t, l, 5, 2, 117, "a")
	if e := d.Write(0, make([]byte, api.Block)); e != ok {
		t.Fatal(e)
	}
	tells(t, l, 5, 2, 117, "a")
	tells(t, opened(t, d, 0, 1, 5), 5, 1, 156)
}
