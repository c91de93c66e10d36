package disk

import (
	"bytes"
	"slices"
	"testing"

	"marginalia/api"
)

// laid is all that may stand in each sector of a disk behind a crash: what was flushed, and behind it what was written since.
type laid [][]string

func newLaid(d *Disk) laid {
	out := make(laid, api.Sectors*d.Blocks())
	out.settle(d.Dump())
	return out
}

// settle: nothing but these bytes.
func (l laid) settle(dump []byte) {
	for i := range l {
		l[i] = []string{string(dump[64*i : 64*i+64])}
	}
}

func (l laid) write(n int, b []byte) {
	for i := range 4 {
		l[4*n+i] = append(l[4*n+i], string(b[64*i:64*i+64]))
	}
}

// check: is each sector as it was flushed, or as a write since then laid it?
func (l laid) check(t *testing.T, dump []byte) {
	t.Helper()
	for i, may := range l {
		if got := string(dump[64*i : 64*i+64]); !slices.Contains(may, got) {
			t.Fatalf("sector %d: %q, none of %q", i, got, may)
		}
	}
}

// P14.2, P14.3: scripts of writes and flushes, with a fuse or none, each crashed by many lists.
func TestBehindAnyCrash(t *testing.T) {
	for seed := range 400 {
		c := chance(seed)
		blocks := 1 + c.below(4)
		d := fresh(t, blocks)
		may := newLaid(d)
		for round := range 8 {
			if c.below(2) == 1 {
				d.Fuse(c.below(12))
			}
			for range c.below(14) {
				if n, b := c.below(blocks), pattern(c.below(256)); c.below(4) > 0 {
					if d.Write(n, b) == ok {
						may.write(n, b)
					}
				} else if d.Flush() == ok {
					may.settle(d.Dump())
				}
			}
			pending := d.Pending()
			d.Crash(c.list(4*round + 12))
			may.check(t, d.Dump())
			if pending > 0 && d.Pending() != 0 {
				t.Fatalf("%d pend behind a crash", d.Pending())
			}
			may.settle(d.Dump())
		}
	}
}

// P14.2: what was flushed, and not written since, is there behind a crash of each list, at each moment of a script.
func TestFlushedIsSafe(t *testing.T) {
	for number := range 1 << 8 {
		for moment := range 4 {
			d := fresh(t, 3)
			for n := range 3 {
				wrote(t, d, n, pattern(n+1), ok)
			}
			flushed(t, d, ok)
			d.Fuse(moment)
			d.Write(1, fill(8))
			d.Write(1, fill(9))
			d.Flush()
			d.Write(1, fill(7))
			d.Crash(list(number, 8))
			a, e := d.Read(0)
			c, f := d.Read(2)
			if e != ok || f != ok || !bytes.Equal(a, pattern(1)) || !bytes.Equal(c, pattern(3)) {
				t.Fatalf("kept by %08b at %d: %v, %v", number, moment, a, c)
			}
			if b, _ := d.Read(1); moment == 0 && !bytes.Equal(b, pattern(2)) {
				t.Fatalf("a write that was not done is kept by %08b: %v", number, b)
			}
		}
	}
}

// P14.3: sectors are told apart within a write: each is kept alone, and left alone.
func TestSectorsAlone(t *testing.T) {
	for at := range 8 {
		for _, kept := range []bool{true, false} {
			d := fresh(t, 2)
			wrote(t, d, 0, pattern(1), ok)
			wrote(t, d, 1, pattern(2), ok)
			flushed(t, d, ok)
			wrote(t, d, 1, pattern(101), ok)
			wrote(t, d, 0, pattern(102), ok)
			l := make([]bool, 8)
			for i := range l {
				l[i] = (i == at) == kept
			}
			was, now := append(pattern(1), pattern(2)...), append(pattern(102), pattern(101)...)
			d.Crash(l)
			from := 64 * ((at + 4) % 8) // block 1 was written ahead of block 0
			if !kept {
				was, now = now, was
			}
			copy(was[from:from+64], now[from:])
			if got := d.Dump(); !bytes.Equal(got, was) {
				t.Errorf("sector %d alone, %v: %v, not %v", at, kept, got, was)
			}
		}
	}
}

// R5: the same calls on another disk are answered alike.
func TestAnsweredAlike(t *testing.T) {
	var first []byte
	for round := range 3 {
		c := chance(5)
		d, s := fresh(t, 5), newSaid(5)
		var told []byte
		for range 400 {
			e, _ := c.anyStep(5).do(d, s)
			told = append(told, byte(e), byte(d.Pending()))
			told = append(told, d.Dump()...)
		}
		if round == 0 {
			first = told
		}
		if !bytes.Equal(told, first) {
			t.Error("the same calls are answered otherwise")
		}
	}
}
