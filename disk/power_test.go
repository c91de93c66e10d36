package disk

import (
	"bytes"
	"math"
	"testing"

	"marginalia/api"
)

// P14.1: behind so many writes and flushes, in each order of the two, the power goes; the one at which it goes is not done.
func TestFuse(t *testing.T) {
	const steps = 5
	for order := range 1 << steps {
		for k := -1; k <= steps; k++ {
			d := fresh(t, 2)
			d.Fuse(k)
			last, pending := fill(0), 0
			for i := range steps {
				want := errDown
				if i < k {
					want = ok
				}
				if order>>i&1 == 1 {
					flushed(t, d, want)
				} else {
					wrote(t, d, 1, pattern(i+1), want)
				}
				switch {
				case want != ok:
				case order>>i&1 == 1:
					pending = 0
				default:
					last, pending = pattern(i+1), pending+4
				}
				dumps(t, d, fill(0), last)
				pends(t, d, pending)
			}
			if k < steps {
				refusedRead(t, d, 1, errDown)
			} else {
				has(t, d, fill(0), last)
			}
		}
	}
}

// P14.1: a fuse below 0 is one of 0, and one that is far off is counted.
func TestFuseEdges(t *testing.T) {
	for _, k := range []int{0, -1, -2, math.MinInt32, math.MinInt} {
		d := fresh(t, 1)
		d.Fuse(k)
		has(t, d, fill(0)) // the power is on till a write or flush
		wrote(t, d, 0, fill(1), errDown)
		dumps(t, d, fill(0))
		pends(t, d, 0)
		refusedRead(t, d, 0, errDown)
	}
	for _, k := range []int{1000, math.MaxInt32, math.MaxInt} {
		d := fresh(t, 1)
		d.Fuse(k)
		for i := range 1000 {
			if i%3 == 2 {
				flushed(t, d, ok)
			} else {
				wrote(t, d, 0, pattern(i), ok)
			}
		}
		if k == 1000 {
			flushed(t, d, errDown)
		} else {
			flushed(t, d, ok)
		}
	}
}

// P14.1: without a fuse the power stays.
func TestNoFuse(t *testing.T) {
	d := fresh(t, 1)
	for i := range 2000 {
		wrote(t, d, 0, pattern(i), ok)
		flushed(t, d, ok)
	}
	has(t, d, pattern(1999))
}

// P14.1: a fuse counts writes and flushes that are done, and nothing else.
func TestFuseCounts(t *testing.T) {
	d := fresh(t, 2)
	for _, k := range []int{0, 1, 2} {
		d.Fuse(k)
		for range 5 {
			d.Blocks()
			d.Pending()
			d.Dump()
			if _, e := d.Read(0); e != ok {
				t.Fatalf("Read ahead of a fuse's end: %d", e)
			}
			for _, n := range nowhere(2) {
				refusedRead(t, d, n, errArg)
				wrote(t, d, n, fill(1), errArg)
			}
			for _, b := range wrongBytes() {
				wrote(t, d, 0, b, errArg)
			}
		}
		for range k {
			wrote(t, d, 0, fill(byte(k)), ok)
		}
		if _, e := d.Read(0); e != ok {
			t.Errorf("Read behind a fuse's last write: %d", e)
		}
		wrote(t, d, 0, fill(9), errDown)
		wrote(t, d, 0, fill(9)[1:], errArg)
		refusedRead(t, d, 0, errDown)
		d.Crash(nil)
	}
}

// P14.1: a fuse in the place of another one, be it longer or shorter, wholly or partly used.
func TestFuseAnew(t *testing.T) {
	for first := range 4 {
		for used := range first + 1 {
			for second := -1; second < 4; second++ {
				d := fresh(t, 1)
				d.Fuse(first)
				for range used {
					flushed(t, d, ok)
				}
				d.Fuse(second)
				for range max(second, 0) {
					flushed(t, d, ok)
				}
				flushed(t, d, errDown)
			}
		}
	}
}

// P14.1: a fuse while the power is off is none, neither then nor behind the crash.
func TestFuseWhileOff(t *testing.T) {
	for _, k := range []int{-1, 0, 1, 5} {
		d := fresh(t, 1)
		wrote(t, d, 0, fill(1), ok)
		d.Fuse(0)
		flushed(t, d, errDown)
		d.Fuse(k)
		flushed(t, d, errDown)
		wrote(t, d, 0, fill(2), errDown)
		refusedRead(t, d, 0, errDown)
		pends(t, d, 4)
		d.Crash(nil)
		for i := range 10 {
			wrote(t, d, 0, pattern(i), ok)
			flushed(t, d, ok)
		}
		has(t, d, pattern(9))
	}
}

// P14.1: a write at which the power goes, and one behind it, leave what was there; Dump and Pending tell it while the power is off.
func TestPowerGoesAtWrite(t *testing.T) {
	d := fresh(t, 2)
	wrote(t, d, 0, pattern(1), ok)
	d.Fuse(1)
	wrote(t, d, 1, pattern(2), ok)
	has(t, d, pattern(1), pattern(2))
	wrote(t, d, 0, pattern(3), errDown)
	for range 3 {
		dumps(t, d, pattern(1), pattern(2))
		pends(t, d, 8)
		refusedRead(t, d, 0, errDown)
		refusedRead(t, d, 1, errDown)
		wrote(t, d, 1, pattern(4), errDown)
		flushed(t, d, errDown)
	}
	d.Crash(bits("111111111111"))
	has(t, d, pattern(1), pattern(2))
	pends(t, d, 0)
}

// P14.1: a flush at which the power goes leaves all that pends.
func TestPowerGoesAtFlush(t *testing.T) {
	d := fresh(t, 2)
	wrote(t, d, 0, fill(1), ok)
	flushed(t, d, ok)
	d.Fuse(2)
	wrote(t, d, 0, fill(2), ok)
	wrote(t, d, 1, fill(3), ok)
	flushed(t, d, errDown)
	pends(t, d, 8)
	dumps(t, d, fill(2), fill(3))
	flushed(t, d, errDown)
	pends(t, d, 8)
	d.Crash(bits("01000010"))
	has(t, d, sectors(1, 2, 1, 1), sectors(0, 0, 3, 0))
	pends(t, d, 0)
}

// P14.1: a crash while the power is on is one too, and takes the fuse.
func TestCrashWhileOn(t *testing.T) {
	for _, k := range []int{0, 1, 3} {
		d := fresh(t, 1)
		wrote(t, d, 0, fill(1), ok)
		d.Fuse(k)
		d.Crash(bits("0011"))
		has(t, d, sectors(0, 0, 1, 1))
		pends(t, d, 0)
		for i := range 10 {
			flushed(t, d, ok)
			wrote(t, d, 0, pattern(i), ok)
		}
		pends(t, d, 4)
	}
}

// P14.1, P14.2: what a crash left is kept by the next one, whatever its list.
func TestCrashTwice(t *testing.T) {
	for _, again := range []string{"", "0000", "1111", "11111111"} {
		d := fresh(t, 2)
		wrote(t, d, 0, fill(1), ok)
		wrote(t, d, 1, fill(2), ok)
		d.Crash(bits("10010110"))
		d.Crash(bits(again))
		has(t, d, sectors(1, 0, 0, 1), sectors(0, 2, 2, 0))
		wrote(t, d, 0, fill(3), ok)
		d.Fuse(0)
		flushed(t, d, errDown)
		d.Crash(bits("0101"))
		d.Crash(bits(again))
		has(t, d, sectors(1, 3, 0, 3), sectors(0, 2, 2, 0))
		pends(t, d, 0)
	}
}

// P14.1: a fresh disk, and one with nothing pending, is crashed as it is.
func TestCrashOfNothing(t *testing.T) {
	for _, l := range [][]bool{nil, {}, {false}, {true}, bits("1111"), bits("11111111")} {
		d := fresh(t, 2)
		d.Crash(l)
		has(t, d, fill(0), fill(0))
		wrote(t, d, 1, pattern(1), ok)
		flushed(t, d, ok)
		d.Crash(l)
		has(t, d, fill(0), pattern(1))
		pends(t, d, 0)
	}
}

// P14.1: a list that is too short keeps nothing behind its end, one that is too long no more than there is.
func TestCrashLists(t *testing.T) {
	for many := range 20 {
		for _, shift := range []int{0, 1} {
			l := make([]bool, many)
			for i := range l {
				l[i] = i%2 == shift
			}
			d := fresh(t, 3)
			wrote(t, d, 2, pattern(100), ok)
			flushed(t, d, ok)
			wrote(t, d, 2, pattern(1), ok)
			wrote(t, d, 0, pattern(2), ok)
			d.Crash(l)
			want := [][]byte{fill(0), fill(0), pattern(100)}
			for i := range min(many, 8) {
				if from := 64 * (i % 4); l[i] && i < 4 {
					copy(want[2][from:from+64], pattern(1)[from:])
				} else if l[i] {
					copy(want[0][from:from+64], pattern(2)[from:])
				}
			}
			has(t, d, want...)
			pends(t, d, 0)
		}
	}
}

// twiceKept: what of the first and of the later one of two writes of a block a crash leaves.
func twiceKept(first, later bool) byte {
	switch {
	case later:
		return 3
	case first:
		return 2
	}
	return 1
}

// P14.1, P14.3: a block that is written twice ahead of a crash, by all lists.
func TestWrittenTwice(t *testing.T) {
	for number := range 1 << 8 {
		d := fresh(t, 1)
		wrote(t, d, 0, fill(1), ok)
		flushed(t, d, ok)
		wrote(t, d, 0, fill(2), ok)
		wrote(t, d, 0, fill(3), ok)
		l := list(number, 8)
		d.Crash(l)
		has(t, d, sectors(twiceKept(l[0], l[4]), twiceKept(l[1], l[5]), twiceKept(l[2], l[6]), twiceKept(l[3], l[7])))
	}
}

// P14.1, P14.3: a block that is written three times, with another one between, by all lists.
func TestWrittenThrice(t *testing.T) {
	for number := range 1 << 16 {
		d := fresh(t, 2)
		wrote(t, d, 1, pattern(1), ok)
		flushed(t, d, ok)
		for i, n := range []int{1, 0, 1, 1} {
			wrote(t, d, n, pattern(10*i+10), ok)
		}
		l := list(number, 16)
		d.Crash(l)
		other, thrice := fill(0), pattern(1)
		for s := range 4 {
			from, to := 64*s, 64*s+64
			if l[4+s] {
				copy(other[from:to], pattern(20)[from:])
			}
			switch {
			case l[12+s]:
				copy(thrice[from:to], pattern(40)[from:])
			case l[8+s]:
				copy(thrice[from:to], pattern(30)[from:])
			case l[s]:
				copy(thrice[from:to], pattern(10)[from:])
			}
		}
		if got := d.Dump(); !bytes.Equal(got, append(other, thrice...)) {
			t.Fatalf("kept by %v: %v", l, got)
		}
	}
}

// P14.1: many writes pend at once, and a crash counts through all of them.
func TestManyPending(t *testing.T) {
	const many = 3000
	for _, kept := range []int{0, 1, 2, many / 2, many - 2, many - 1} {
		d := fresh(t, 2)
		for i := range many {
			wrote(t, d, i%2, pattern(i), ok)
		}
		pends(t, d, 4*many)
		l := make([]bool, 4*many)
		l[4*kept+2] = true
		d.Crash(l)
		want := [][]byte{fill(0), fill(0)}
		copy(want[kept%2][128:192], pattern(kept)[128:])
		has(t, d, want...)
		pends(t, d, 0)
	}
	if api.Sectors != 4 || api.Sector != 64 || api.Block != 256 {
		t.Error("the tests take a block as four sectors of 64 bytes")
	}
}
