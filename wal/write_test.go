package wal

import (
	"bytes"
	"fmt"
	"slices"
	"strings"
	"testing"

	"marginalia/api"
	"marginalia/disk"
)

// marked: a disk in whose sectors stand texts that are no cells, another one in each.
func marked(t *testing.T, blocks int) *disk.Disk {
	t.Helper()
	d := fresh(t, blocks)
	var sectors []string
	for n := range 4 * blocks {
		sectors = append(sectors, mark(n))
	}
	laid(t, d, 0, sectors...)
	return d
}

func mark(n int) string {
	text := fmt.Sprintf("the sector %d ", n)
	return text + strings.Repeat(".", 64-len(text))
}

// stands: are the sectors of a disk as they are wanted?
func stands(t *testing.T, d *disk.Disk, want []string) {
	t.Helper()
	for n, text := range want {
		if got := sector(d, n); got != text {
			t.Fatalf("sector %d: %q, not %q", n, got, text)
		}
	}
}

// P17.1: Open and Reset write nothing; no fuse goes by them.
func TestWriteNothing(t *testing.T) {
	d := marked(t, 3)
	laid(t, d, 1, pieces(string(letters(100)), 5, 1)...)
	d.Fuse(0)
	dump := d.Dump()
	l := opened(t, d, 1, 2, 5)
	l.Records()
	begun(t, l, 6, ok)
	begun(t, l, 6, errArg)
	opened(t, d, 0, 3, 9)
	refused(t, d, 0, 4, 9, errArg)
	if !bytes.Equal(d.Dump(), dump) || d.Pending() != 0 {
		t.Error("something was written")
	}
	if _, e := d.Read(0); e != ok {
		t.Error("the fuse went")
	}
}

// P17.1: Append writes just the blocks that it touches, in rising order, with what stands in their other sectors: from each end on, of each count of cells. Which sectors are pending, and in which order, is told by crashes that keep one of them.
func TestAppendWrites(t *testing.T) {
	for end := range 12 {
		for many := 1; end+many <= 12; many++ {
			text := string(letters(39*many - 5))
			var want []string
			for n := range 20 {
				want = append(want, mark(n))
			}
			for i := range end {
				want[4+i] = pieces("r", 5, 1)[0]
			}
			was := slices.Clone(want)
			copy(want[4+end:], pieces(text, 5, 1))
			from := (4 + end) / 4 * 4 // the first sector that is written
			pending := (4+end+many+3)/4*4 - from
			for kept := -1; kept <= pending; kept++ {
				d := marked(t, 5)
				l := opened(t, d, 1, 3, 5)
				for range end {
					appended(t, l, []byte("r"), ok)
				}
				synced(t, l, ok)
				appended(t, l, []byte(text), ok)
				if d.Pending() != pending {
					t.Fatalf("%d cells from %d on: %d sectors are pending, not %d", many, end, d.Pending(), pending)
				}
				stands(t, d, want)
				keep := make([]bool, pending+1)
				if kept >= 0 {
					keep[kept] = true
				}
				d.Crash(keep)
				now := slices.Clone(was)
				if kept >= 0 && kept < pending {
					now[from+kept] = want[from+kept]
				}
				stands(t, d, now)
			}
		}
	}
}

// P17.1: what stands in the other sectors is what stands there when it is appended, not what stood there when the log was opened.
func TestOtherSectorsAreAsked(t *testing.T) {
	d := fresh(t, 2)
	l := opened(t, d, 0, 2, 5)
	appended(t, l, []byte("a"), ok)
	laid(t, d, 0, mark(0), mark(1), mark(2), mark(3), mark(4), mark(5), mark(6), mark(7))
	appended(t, l, letters(100), ok)
	text := pieces(string(letters(100)), 5, 1)
	stands(t, d, []string{mark(0), text[0], text[1], text[2], mark(4), mark(5), mark(6), mark(7)})
	tells(t, l, 5, 1, 156, "a", string(letters(100)))
	d.Crash(nil)
	appended(t, l, []byte("b"), ok)
	b := pieces("b", 5, 1)[0]
	stands(t, d, []string{mark(0), mark(1), mark(2), mark(3), b, mark(5), mark(6), mark(7)})
	if d.Pending() != 4 {
		t.Errorf("%d sectors are pending", d.Pending())
	}
}

// P17.1: a fuse that goes at each of the writes of an append: those ahead are done; the record is none, the log is broken.
func TestFuseAtWrite(t *testing.T) {
	text := string(letters(39 * 7)) // from the sector 2 on: blocks 1, 2 and 3
	cells := pieces(text, 5, 2)
	for fuse := range 4 {
		d := marked(t, 5)
		laid(t, d, 1, pieces("a", 5, 1)[0], pieces("b", 5, 1)[0], mark(6), mark(7))
		l := opened(t, d, 1, 3, 5)
		want := []string{mark(0), mark(1), mark(2), mark(3), pieces("a", 5, 1)[0], pieces("b", 5, 1)[0]}
		for n := 6; n < 20; n++ {
			want = append(want, mark(n))
		}
		done := []int{0, 2, 6, 7}[fuse]
		copy(want[6:], cells[:done])
		d.Fuse(fuse)
		if fuse == 3 {
			appended(t, l, []byte(text), ok)
			stands(t, d, want)
			tells(t, l, 5, 2, 39*3, "a", "b", text)
			synced(t, l, errDown)
			down(t, d, l, 5, 2, "a", "b", text)
			continue
		}
		appended(t, l, []byte(text), errDown)
		stands(t, d, want)
		down(t, d, l, 5, 2, "a", "b")
		if got := opened(t, d, 1, 3, 5); !slices.Equal(texts(got.Records()), []string{"a", "b"}) || got.Room() != 39*10 {
			t.Fatalf("behind the crash: Room %d, %q", got.Room(), got.Records())
		}
	}
}

// down: a log whose disk's power went: each call, ahead of a crash that keeps all, and behind it.
func down(t *testing.T, d *disk.Disk, l *Log, epoch, life uint64, records ...string) {
	t.Helper()
	for range 2 {
		dump, pending := d.Dump(), d.Pending()
		tells(t, l, epoch, life, 0, records...)
		appended(t, l, nil, errArg)
		appended(t, l, letters(6001), errLarge)
		appended(t, l, letters(6000), errDown)
		appended(t, l, []byte("x"), errDown)
		synced(t, l, errDown)
		begun(t, l, epoch, errDown)
		begun(t, l, epoch+1, errDown)
		tells(t, l, epoch, life, 0, records...)
		if !bytes.Equal(d.Dump(), dump) || d.Pending() != pending {
			t.Fatal("a broken log has written")
		}
		d.Crash(slices.Repeat([]bool{true}, d.Pending()))
	}
}

// P17.1: a fuse that goes at the flush: the log is broken, what was appended is told; it is pending.
func TestFuseAtFlush(t *testing.T) {
	d := fresh(t, 2)
	l := opened(t, d, 0, 2, 5)
	appended(t, l, []byte("a"), ok)
	d.Fuse(1)
	synced(t, l, ok)
	if d.Pending() != 0 {
		t.Error("Sync has not flushed")
	}
	synced(t, l, errDown)
	refused(t, d, 0, 2, 5, errDown)
	down(t, d, l, 5, 1, "a")
	n := opened(t, d, 0, 2, 5)
	tells(t, n, 5, 2, 273, "a")
	appended(t, n, []byte("b"), ok)
	synced(t, n, ok)
	tells(t, n, 5, 2, 234, "a", "b")
}

// P17.1: a log with nothing pending flushes as ever.
func TestSyncOfNothing(t *testing.T) {
	d := fresh(t, 1)
	l := opened(t, d, 0, 1, 5)
	d.Fuse(1)
	synced(t, l, ok)
	synced(t, l, errDown)
	down(t, d, l, 5, 1)
}

// P17.1: the power that went by somebody else breaks no log till it writes or flushes; a full log tells that it is full, and a new epoch asks nothing of the disk.
func TestPowerWentElsewhere(t *testing.T) {
	for _, by := range []string{"append", "sync"} {
		d := fresh(t, 2)
		l := opened(t, d, 0, 1, 5)
		appended(t, l, []byte("a"), ok)
		d.Fuse(0)
		d.Flush()
		tells(t, l, 5, 1, 117, "a")
		appended(t, l, letters(118), errFull)
		tells(t, l, 5, 1, 117, "a")
		begun(t, l, 6, ok)
		tells(t, l, 6, 1, 156)
		if by == "append" {
			appended(t, l, []byte("b"), errDown)
		} else {
			synced(t, l, errDown)
		}
		down(t, d, l, 6, 1)
	}
}

// P17.1, R2: of several errors Append tells the one that is named first.
func TestAppendErrors(t *testing.T) {
	d := fresh(t, 1)
	l := opened(t, d, 0, 1, 5)
	for _, x := range []struct {
		bytes int
		want  api.Errno
	}{{0, errArg}, {6001, errLarge}, {6000, errFull}, {157, errFull}} {
		appended(t, l, letters(x.bytes), x.want)
	}
	d.Fuse(0)
	for _, x := range []struct {
		bytes int
		want  api.Errno
	}{{0, errArg}, {6001, errLarge}, {6000, errFull}, {157, errFull}, {156, errDown}, {157, errDown}, {6000, errDown}, {6001, errLarge}, {0, errArg}} {
		appended(t, l, letters(x.bytes), x.want)
	}
}

// P17.1: a log that is used on behind a crash goes on from its own end; what was told to it as appended stays told.
func TestUsedOnBehindCrash(t *testing.T) {
	d := fresh(t, 1)
	l := opened(t, d, 0, 1, 5)
	appended(t, l, []byte("a"), ok)
	d.Crash(nil)
	tells(t, l, 5, 1, 117, "a")
	appended(t, l, []byte("b"), ok)
	synced(t, l, ok)
	tells(t, l, 5, 1, 78, "a", "b")
	stands(t, d, []string{none, pieces("b", 5, 1)[0], none, none})
	tells(t, opened(t, d, 0, 1, 5), 5, 2, 156)
}
