package wal

import (
	"bytes"
	"math"
	"slices"
	"strings"
	"testing"

	"marginalia/api"
	"marginalia/disk"
)

const (
	ok       = api.OK
	errArg   = api.ErrArg
	errFull  = api.ErrFull
	errLarge = api.ErrLarge
	errForm  = api.ErrForm
	errDown  = api.ErrDown

	most64 = math.MaxUint64
)

// none is a sector that is no cell.
var none = strings.Repeat("\x00", 64)

func fresh(t *testing.T, blocks int) *disk.Disk {
	t.Helper()
	d, e := disk.New(blocks)
	if e != ok {
		t.Fatalf("New(%d): %d", blocks, e)
	}
	return d
}

// letters: so many bytes, of which those that are 39 apart differ.
func letters(n int) []byte {
	out := make([]byte, n)
	for i := range out {
		out[i] = byte('a' + i%26)
	}
	return out
}

// bits: a list as noughts and ones.
func bits(text string) []bool {
	var out []bool
	for _, c := range text {
		out = append(out, c == '1')
	}
	return out
}

// list: a list of so many, by the bits of a number.
func list(number, many int) []bool {
	out := make([]bool, many)
	for i := range out {
		out[i] = number>>i&1 == 1
	}
	return out
}

func texts(l [][]byte) []string {
	var out []string
	for _, b := range l {
		out = append(out, string(b))
	}
	return out
}

func sizes(l []string) []int {
	var out []int
	for _, text := range l[:min(len(l), 40)] {
		out = append(out, len(text))
	}
	return out
}

func opened(t *testing.T, d *disk.Disk, first, size int, epoch uint64) *Log {
	t.Helper()
	l, e := Open(d, first, size, epoch)
	if e != ok || l == nil {
		t.Fatalf("Open(%d, %d, %d): %d", first, size, epoch, e)
	}
	return l
}

func refused(t *testing.T, d *disk.Disk, first, size int, epoch uint64, want api.Errno) {
	t.Helper()
	if l, e := Open(d, first, size, epoch); l != nil || e != want {
		t.Fatalf("Open(%d, %d, %d): %v, %d, not %d", first, size, epoch, l, e, want)
	}
}

func appended(t *testing.T, l *Log, b []byte, want api.Errno) {
	t.Helper()
	if e := l.Append(b); e != want {
		t.Fatalf("Append(%d bytes): %d, not %d", len(b), e, want)
	}
}

func synced(t *testing.T, l *Log, want api.Errno) {
	t.Helper()
	if e := l.Sync(); e != want {
		t.Fatalf("Sync: %d, not %d", e, want)
	}
}

func begun(t *testing.T, l *Log, epoch uint64, want api.Errno) {
	t.Helper()
	if e := l.Reset(epoch); e != want {
		t.Fatalf("Reset(%d): %d, not %d", epoch, e, want)
	}
}

// tells: all that a log tells of itself.
func tells(t *testing.T, l *Log, epoch, life uint64, room int, records ...string) {
	t.Helper()
	if l.Epoch() != epoch || l.Life() != life || l.Room() != room {
		t.Fatalf("Epoch %d, Life %d, Room %d, not %d, %d, %d", l.Epoch(), l.Life(), l.Room(), epoch, life, room)
	}
	if got := texts(l.Records()); !slices.Equal(got, records) {
		t.Fatalf("Records: %d of %v bytes, not %d of %v, or others", len(got), sizes(got), len(records), sizes(records))
	}
}

// laid: sectors, flushed into a disk from a block on; noughts behind them in the last one.
func laid(t *testing.T, d *disk.Disk, first int, sectors ...string) {
	t.Helper()
	for l := range slices.Chunk(sectors, 4) {
		b := make([]byte, 256)
		copy(b, strings.Join(l, ""))
		if e := d.Write(first, b); e != ok {
			t.Fatalf("Write: %d", e)
		}
		first++
	}
	if e := d.Flush(); e != ok {
		t.Fatalf("Flush: %d", e)
	}
}

// sector: one as it stands.
func sector(d *disk.Disk, n int) string { return string(d.Dump()[64*n : 64*n+64]) }

// P17.1: the chapter's example.
func TestExample(t *testing.T) {
	d := fresh(t, 1)
	l := opened(t, d, 0, 1, 1)
	tells(t, l, 1, 1, 156)
	appended(t, l, []byte("ab"), ok)
	synced(t, l, ok)
	tells(t, l, 1, 1, 117, "ab")
	tells(t, opened(t, d, 0, 1, 1), 1, 2, 117, "ab")
}

// P17.1: there is a region just of 1 block or more of the disk.
func TestOpenRegions(t *testing.T) {
	for _, blocks := range []int{1, 2, 3, 4096} {
		d := fresh(t, blocks)
		edges := []int{math.MinInt, math.MinInt + 1, -4096, -2, -1, 0, 1, 2, 3, 4, 4095, 4096, 4097, math.MaxInt - 1, math.MaxInt}
		for _, first := range edges {
			for _, size := range edges {
				is := first >= 0 && first < blocks && size > 0 && size <= blocks && first+size <= blocks
				if !is {
					refused(t, d, first, size, 1, errArg)
					continue
				}
				tells(t, opened(t, d, first, size, 1), 1, 1, min(156*size, 6000))
			}
		}
	}
}

// P17.1: Open's errors, in their order; no disk, and one that New did not make, have no regions.
func TestOpenErrors(t *testing.T) {
	for _, d := range []*disk.Disk{nil, new(disk.Disk)} {
		refused(t, d, 0, 1, 1, errArg)
		refused(t, d, 0, 0, 1, errArg)
		refused(t, d, math.MaxInt, math.MaxInt, 1, errArg)
	}
	d := fresh(t, 2)
	laid(t, d, 1, piece{1, most64, 0, 1, "x"}.sector())
	d.Fuse(0)
	refused(t, d, 1, 1, 1, errForm) // the fuse is there, but the power is on
	d.Flush()
	refused(t, d, 2, 1, 1, errArg)
	refused(t, d, 1, 1, 1, errDown)
	refused(t, d, 0, 1, 1, errDown)
	d.Crash(nil)
	refused(t, d, 1, 1, 1, errForm)
	tells(t, opened(t, d, 0, 1, 1), 1, 1, 156)
}

// P17.1: the life is above that of all cells of the region, of whatever epoch, wherever they stand, and of no others.
func TestLife(t *testing.T) {
	broken := []byte(piece{5, 900, 0, 1, "x"}.sector())
	broken[63]++
	for _, x := range []struct {
		name    string
		sectors []string
		life    uint64 // 0: there is none
	}{
		{"none", nil, 1},
		{"the first sector", []string{piece{5, 7, 0, 1, "x"}.sector()}, 8},
		{"the last sector", append(slices.Repeat([]string{none}, 7), piece{5, 7, 0, 1, "x"}.sector()), 8},
		{"behind the region", append(slices.Repeat([]string{none}, 8), piece{5, most64, 0, 1, "x"}.sector()), 1},
		{"another epoch", []string{none, piece{4, 7, 0, 1, "x"}.sector(), none, piece{6, 9, 0, 1, "x"}.sector()}, 10},
		{"no beginning", []string{piece{5, 30, 1, 2, "x"}.sector()}, 31},
		{"no data", []string{piece{5, 30, 0, 65535, ""}.sector()}, 31},
		{"a wrong sum", []string{string(broken), piece{5, 3, 0, 1, "x"}.sector()}, 4},
		{"the greatest is not the last", []string{piece{5, 3, 0, 1, "x"}.sector(), piece{5, 9, 0, 1, "x"}.sector(), piece{5, 8, 0, 1, "x"}.sector()}, 10},
		{"0", []string{piece{5, 0, 0, 1, "x"}.sector()}, 1},
		{"2^64 - 2", []string{piece{5, most64 - 1, 0, 1, "x"}.sector()}, most64},
		{"2^64 - 2, another epoch", []string{none, piece{9, most64 - 1, 0, 1, "x"}.sector()}, most64},
		{"2^64 - 1", []string{none, none, none, none, piece{5, most64, 0, 1, "x"}.sector()}, 0},
		{"2^64 - 1, another epoch", []string{piece{5, 1, 0, 1, "x"}.sector(), piece{0, most64, 2, 3, "x"}.sector()}, 0},
	} {
		t.Run(x.name, func(t *testing.T) {
			d := fresh(t, 4)
			laid(t, d, 1, x.sectors...)
			if x.life == 0 {
				refused(t, d, 1, 2, 5, errForm)
				return
			}
			if l := opened(t, d, 1, 2, 5); l.Life() != x.life {
				t.Errorf("Life: %d, not %d", l.Life(), x.life)
			}
		})
	}
}

// P17.1: the greatest life is a log's last one.
func TestLastLife(t *testing.T) {
	d := fresh(t, 1)
	laid(t, d, 0, piece{5, most64 - 2, 0, 1, "x"}.sector())
	l := opened(t, d, 0, 1, 5)
	tells(t, l, 5, most64-1, 117, "x")
	appended(t, l, []byte("y"), ok)
	l = opened(t, d, 0, 1, 5)
	tells(t, l, 5, most64, 78, "x", "y")
	appended(t, l, []byte("z"), ok)
	tells(t, l, 5, most64, 39, "x", "y", "z")
	refused(t, d, 0, 1, 5, errForm)
	refused(t, d, 0, 1, 6, errForm)
}

// P17.1: which records are read from a region of two blocks, and where they end.
func TestRead(t *testing.T) {
	one := func(epoch, life uint64, data string) string { return piece{epoch, life, 0, 1, data}.sector() }
	three := pieces(string(letters(100)), 5, 4)
	other := pieces(string(letters(100)), 5, 5)
	six := pieces(string(letters(39*5+1)), 5, 4)
	nine := pieces(string(letters(39*9)), 5, 4)
	for _, x := range []struct {
		name    string
		sectors []string
		end     int
		records []string
	}{
		{"none", nil, 0, nil},
		{"one", []string{one(5, 1, "a")}, 1, []string{"a"}},
		{"behind a sector that is no cell", []string{none, one(5, 1, "a")}, 0, nil},
		{"up to a sector that is no cell", []string{one(5, 1, "a"), none, one(5, 1, "b")}, 1, []string{"a"}},
		{"of one life", []string{one(5, 1, "a"), one(5, 1, "b"), one(5, 1, "a")}, 3, []string{"a", "b", "a"}},
		{"of rising lives", []string{one(5, 0, "a"), one(5, 3, "b"), one(5, 3, "c"), one(5, 9, "d")}, 4, []string{"a", "b", "c", "d"}},
		{"an older life behind", []string{one(5, 3, "a"), one(5, 2, "b")}, 1, []string{"a"}},
		{"a lower life than just ahead", []string{one(5, 1, "a"), one(5, 3, "b"), one(5, 2, "c")}, 2, []string{"a", "b"}},
		{"another epoch", []string{one(4, 1, "a"), one(5, 1, "b")}, 0, nil},
		{"another epoch behind", []string{one(5, 1, "a"), one(6, 1, "b"), one(5, 1, "c")}, 1, []string{"a"}},
		{"three cells", append(slices.Clone(three), one(5, 4, "b")), 4, []string{string(letters(100)), "b"}},
		{"three cells behind one", append([]string{one(5, 4, "b")}, three...), 4, []string{"b", string(letters(100))}},
		{"the last cell is missing", []string{three[0], three[1], none, one(5, 4, "b")}, 0, nil},
		{"the last cell is another record's", []string{three[0], three[1], one(5, 4, "b")}, 0, nil},
		{"a cell in the midst is missing", []string{three[0], none, three[2]}, 0, nil},
		{"the first cell is missing", []string{three[1], three[2], one(5, 4, "b")}, 0, nil},
		{"the first cell is missing, behind one", []string{one(5, 4, "b"), three[1], three[2]}, 1, []string{"b"}},
		{"cells of two lives", []string{three[0], three[1], other[2]}, 0, nil},
		{"cells of two epochs", []string{three[0], pieces(string(letters(100)), 6, 4)[1], three[2]}, 0, nil},
		{"cells in another order", []string{three[0], three[2], three[1]}, 0, nil},
		{"a life's cell that is too short", []string{piece{5, 4, 0, 2, "short"}.sector(), piece{5, 4, 1, 2, "x"}.sector()}, 0, nil},
		{"a last cell without data", []string{three[0], three[1], piece{5, 4, 2, 3, ""}.sector()}, 0, nil},
		{"one cell without data", []string{one(5, 4, "")}, 0, nil},
		{"in two blocks", append([]string{one(5, 4, "a"), one(5, 4, "b"), one(5, 4, "c")}, three...), 6, []string{"a", "b", "c", string(letters(100))}},
		{"in two blocks, of which one was written", []string{one(5, 4, "a"), one(5, 4, "b"), one(5, 4, "c"), three[0]}, 3, []string{"a", "b", "c"}},
		{"in two blocks, of which the other was written", []string{one(5, 4, "a"), one(5, 4, "b"), one(5, 4, "c"), none, three[1], three[2]}, 3, []string{"a", "b", "c"}},
		{"up to the region's end", append([]string{one(5, 4, "a"), one(5, 4, "b")}, six...), 8, []string{"a", "b", string(letters(196))}},
		{"beyond the region's end by one", append([]string{one(5, 4, "a"), one(5, 4, "b"), one(5, 4, "c")}, six...), 3, []string{"a", "b", "c"}},
		{"of more cells than the region has", nine, 0, nil},
		{"of as many cells as may be", []string{piece{5, 4, 0, 65535, string(letters(39))}.sector()}, 0, nil},
		{"all sectors", slices.Repeat([]string{one(5, 1, "a")}, 9), 8, slices.Repeat([]string{"a"}, 8)},
	} {
		t.Run(x.name, func(t *testing.T) {
			d := fresh(t, 5)
			laid(t, d, 2, x.sectors...)
			l := opened(t, d, 2, 2, 5)
			tells(t, l, 5, l.Life(), 39*(8-x.end), x.records...)
		})
	}
}

// P17.1: a record is read that is longer than one that may be appended.
func TestReadMore(t *testing.T) {
	d := fresh(t, 500)
	long := string(letters(6001))
	longer := string(letters(60000))
	laid(t, d, 0, append(pieces(long, 1, 1), pieces(longer, 1, 1)...)...)
	tells(t, opened(t, d, 0, 500, 1), 1, 2, 6000, long, longer)
}

// P17.1: a record of each size takes as many sectors as it has pieces.
func TestAppendSizes(t *testing.T) {
	for _, x := range []struct {
		bytes, blocks int
		want          api.Errno
	}{
		{0, 1, errArg}, {1, 1, ok}, {38, 1, ok}, {39, 1, ok}, {40, 1, ok}, {78, 1, ok}, {79, 1, ok}, {156, 1, ok}, {157, 1, errFull},
		{157, 2, ok}, {312, 2, ok}, {313, 2, errFull}, {5928, 38, ok}, {5929, 38, errFull}, {6000, 38, errFull}, {6001, 38, errLarge},
		{0, 39, errArg}, {5999, 39, ok}, {6000, 39, ok}, {6001, 39, errLarge}, {6000, 40, ok}, {6001, 40, errLarge}, {6001, 1, errLarge}, {70000, 40, errLarge},
	} {
		d := fresh(t, x.blocks)
		l := opened(t, d, 0, x.blocks, 5)
		b := letters(x.bytes)
		appended(t, l, b, x.want)
		if x.want != ok {
			tells(t, l, 5, 1, min(156*x.blocks, 6000))
			if d.Pending() != 0 {
				t.Errorf("Append(%d bytes) has written", x.bytes)
			}
			continue
		}
		left := 4*x.blocks - (x.bytes+38)/39
		tells(t, l, 5, 1, min(39*left, 6000), string(b))
		tells(t, opened(t, d, 0, x.blocks, 5), 5, 2, min(39*left, 6000), string(b))
	}
}

// P17.1: Room is met, and passed by one byte, from each end on.
func TestRoom(t *testing.T) {
	for end := range 13 {
		d := fresh(t, 4)
		l := opened(t, d, 1, 3, 5)
		var records []string
		for range end {
			appended(t, l, []byte("r"), ok)
			records = append(records, "r")
		}
		room := 39 * (12 - end)
		tells(t, l, 5, 1, room, records...)
		dump := d.Dump()
		appended(t, l, letters(room+1), errFull)
		tells(t, l, 5, 1, room, records...)
		if !bytes.Equal(d.Dump(), dump) || d.Pending() != 4*end {
			t.Fatalf("from %d on: what is refused has written", end)
		}
		if room > 0 {
			appended(t, l, letters(room), ok)
			records = append(records, string(letters(room)))
		}
		tells(t, l, 5, 1, 0, records...)
		appended(t, l, []byte("x"), errFull)
		tells(t, opened(t, d, 1, 3, 5), 5, 2, 0, records...)
		if sector(d, 16-1) == none && room > 0 || !bytes.Equal(d.Dump()[:256], make([]byte, 256)) {
			t.Fatalf("from %d on: the region's bounds", end)
		}
	}
}

// P17.1: Room is bounded by what a record may have, as long as there is more.
func TestRoomOfGreatRegion(t *testing.T) {
	l := opened(t, fresh(t, 40), 0, 40, 5)
	for end := range 161 {
		want := []int{39 * (160 - end), 6000}
		if l.Room() != slices.Min(want) {
			t.Fatalf("Room: %d, not the least of %v", l.Room(), want)
		}
		if l.Room() > 5000 {
			appended(t, l, letters(6001), errLarge)
		}
		if l.Room() < 6000 {
			appended(t, l, letters(l.Room()+1), errFull)
			appended(t, l, letters(6000), errFull)
		}
		if end < 160 {
			appended(t, l, letters(1+end%39), ok)
		}
	}
}

// P17.1: any bytes are a record, such as have the form of cells and such as are noughts.
func TestAppendAnyBytes(t *testing.T) {
	all := make([]byte, 256)
	for i := range all {
		all[i] = byte(i)
	}
	d := fresh(t, 10)
	l := opened(t, d, 0, 10, 5)
	var records []string
	for _, b := range []string{"\x00", strings.Repeat("\x00", 40), string(all), piece{5, 1, 0, 1, "x"}.sector(), "\xFF"} {
		appended(t, l, []byte(b), ok)
		records = append(records, b)
	}
	room := 39 * (40 - 1 - 2 - 7 - 2 - 1)
	tells(t, l, 5, 1, room, records...)
	tells(t, opened(t, d, 0, 10, 5), 5, 2, room, records...)
}

// P17.1: which epochs a log may be reset to; what is refused leaves it as it was.
func TestReset(t *testing.T) {
	for _, x := range []struct {
		was, now uint64
		want     api.Errno
	}{
		{0, 0, errArg}, {0, 1, ok}, {0, most64, ok}, {1, 0, errArg}, {1, 1, errArg}, {1, 2, ok}, {5, 0, errArg}, {5, 4, errArg}, {5, 5, errArg}, {5, 6, ok}, {5, 1 << 63, ok},
		{most64 - 1, most64 - 2, errArg}, {most64 - 1, most64 - 1, errArg}, {most64 - 1, most64, ok}, {most64, most64, errArg}, {most64, 0, errArg}, {most64, most64 - 1, errArg},
	} {
		d := fresh(t, 2)
		l := opened(t, d, 0, 2, x.was)
		appended(t, l, letters(50), ok)
		appended(t, l, []byte("x"), ok)
		dump := d.Dump()
		begun(t, l, x.now, x.want)
		if !bytes.Equal(d.Dump(), dump) || d.Pending() != 8 {
			t.Fatalf("Reset(%d) has written", x.now)
		}
		if x.want != ok {
			tells(t, l, x.was, 1, 195, string(letters(50)), "x")
			continue
		}
		tells(t, l, x.now, 1, 312)
		appended(t, l, []byte("y"), ok)
		tells(t, l, x.now, 1, 273, "y")
		want := pieces("y", x.now, 1)[0]
		if sector(d, 0) != want || sector(d, 1) != pieces(string(letters(50)), x.was, 1)[1] {
			t.Fatalf("behind Reset(%d) %q is appended", x.now, sector(d, 0))
		}
		tells(t, opened(t, d, 0, 2, x.now), x.now, 2, 273, "y")
		tells(t, opened(t, d, 0, 2, x.was), x.was, 2, 312)
	}
}

// P17.1: a log that is reset to an epoch of which cells stand has none of them; its end is sector 0.
func TestResetToCells(t *testing.T) {
	d := fresh(t, 1)
	laid(t, d, 0, piece{7, 3, 0, 1, "a"}.sector(), piece{7, 3, 0, 1, "b"}.sector())
	l := opened(t, d, 0, 1, 5)
	begun(t, l, 7, ok)
	tells(t, l, 7, 4, 156)
	appended(t, l, []byte("c"), ok)
	tells(t, l, 7, 4, 117, "c")
	tells(t, opened(t, d, 0, 1, 7), 7, 5, 117, "c")
}

// P17.1: on a nil log and on one that Open did not make nothing panics.
func TestNilLog(t *testing.T) {
	var l *Log
	for range 2 {
		tells(t, l, 0, 0, 0)
		appended(t, l, nil, errArg)
		appended(t, l, []byte("x"), errArg)
		appended(t, l, letters(6001), errArg)
		synced(t, l, errArg)
		begun(t, l, 0, errArg)
		begun(t, l, 9, errArg)
	}
	l = new(Log)
	tells(t, l, 0, 0, 0)
	appended(t, l, []byte("x"), errFull)
	begun(t, l, 1, ok)
	synced(t, l, errArg)
}

// P17.1: a log that is opened twice: each has its own records, end and epoch.
func TestOpenedTwice(t *testing.T) {
	d := fresh(t, 2)
	a, b := opened(t, d, 0, 2, 5), opened(t, d, 0, 2, 5)
	appended(t, a, []byte("a"), ok)
	appended(t, a, letters(100), ok)
	tells(t, a, 5, 1, 156, "a", string(letters(100)))
	tells(t, b, 5, 1, 312)
	c := opened(t, d, 0, 2, 5)
	tells(t, c, 5, 2, 156, "a", string(letters(100)))
	appended(t, b, []byte("b"), ok)
	tells(t, b, 5, 1, 273, "b")
	begun(t, a, 6, ok)
	tells(t, a, 6, 1, 312)
	tells(t, c, 5, 2, 156, "a", string(letters(100)))
	tells(t, opened(t, d, 0, 2, 5), 5, 2, 156, "b", string(letters(100)))
}

// P17.1: logs of two regions of a disk are nothing to each other, but for its power.
func TestTwoRegions(t *testing.T) {
	d := fresh(t, 4)
	a, b := opened(t, d, 0, 2, 5), opened(t, d, 2, 2, 5)
	appended(t, a, letters(312), ok)
	appended(t, b, letters(200), ok)
	tells(t, opened(t, d, 0, 2, 5), 5, 2, 0, string(letters(312)))
	tells(t, opened(t, d, 2, 2, 5), 5, 2, 78, string(letters(200)))
	tells(t, opened(t, d, 1, 2, 5), 5, 2, 312)
	d.Fuse(0)
	synced(t, b, errDown)
	tells(t, a, 5, 1, 0, string(letters(312)))
	begun(t, a, 6, ok)
	appended(t, a, []byte("x"), errDown)
	begun(t, a, 7, errDown)
}
