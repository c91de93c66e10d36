package wal

import (
	"bytes"
	"slices"
	"strconv"
	"strings"
	"testing"

	"marginalia/disk"
)

// kept is what P17.2 asks of a log: the records that were appended to it, and how many of them were synced.
type kept struct {
	epoch   uint64
	records []string
	synced  int
}

// check: has a log that was opened behind a crash a beginning of what was appended, and all that was synced? It goes on from there.
func (k *kept) check(t *testing.T, l *Log, script string) {
	t.Helper()
	got := texts(l.Records())
	if len(got) < k.synced || len(got) > len(k.records) || !slices.Equal(got, k.records[:len(got)]) {
		t.Fatalf("%s: %d records of %v bytes; %d of %v bytes were appended, %d synced", script, len(got), sizes(got), len(k.records), sizes(k.records), k.synced)
	}
	k.records, k.synced = got, len(got)
}

// live: what is done to a log, word by word: a number: a record of so many bytes; s: a sync; r: an epoch more. At the first error it ends.
func (k *kept) live(l *Log, script string) {
	for i, word := range strings.Fields(script) {
		switch word {
		case "s":
			if l.Sync() != ok {
				return
			}
			k.synced = len(k.records)
		case "r":
			if l.Reset(k.epoch+1) != ok {
				return
			}
			k.epoch, k.records, k.synced = k.epoch+1, nil, 0
		default:
			n, _ := strconv.Atoi(word)
			b := bytes.Repeat([]byte{byte(len(k.records)), byte(i), byte(l.Life()), byte(k.epoch)}, n/4+1)[:n]
			switch e := l.Append(b); e {
			case errFull:
			case ok:
				k.records = append(k.records, string(b))
			default:
				return
			}
		}
	}
}

// lives: scripts of a life each, with a fuse (none: below 0) and a crash behind it that keeps what a number's bits say. It tells how many sectors were pending ahead of each crash.
func lives(t *testing.T, scripts []string, fuses, keeps []int) []int {
	t.Helper()
	d := fresh(t, 4)
	k := &kept{epoch: 3}
	var pending []int
	for i, script := range scripts {
		l := opened(t, d, 1, 2, k.epoch)
		k.check(t, l, script)
		if fuses[i] >= 0 {
			d.Fuse(fuses[i])
		}
		k.live(l, script)
		pending = append(pending, d.Pending())
		d.Crash(list(keeps[i], d.Pending()))
	}
	l := opened(t, d, 1, 2, k.epoch)
	k.check(t, l, strings.Join(scripts, " | "))
	again(t, d, l, k)
	return pending
}

// again: P17.3: opened again, and with one record more, it has the same.
func again(t *testing.T, d *disk.Disk, l *Log, k *kept) {
	t.Helper()
	if n := opened(t, d, 1, 2, k.epoch); !slices.EqualFunc(n.Records(), l.Records(), bytes.Equal) || n.Room() != l.Room() {
		t.Fatal("opened again it has other records")
	}
	if l.Room() == 0 {
		return
	}
	appended(t, l, []byte("the last one"), ok)
	if n := opened(t, d, 1, 2, k.epoch); !slices.EqualFunc(n.Records(), l.Records(), bytes.Equal) || n.Room() != l.Room() {
		t.Fatal("with one more, opened again, it has other records")
	}
}

// P17.2, P17.3: behind two lives, one of them with a fuse at each place, and with each choice of what is pending in one of them.
func TestEachCrash(t *testing.T) {
	for _, scripts := range [][]string{
		{"100 30", "20 20"},
		{"20 20", "100 100"},
		{"20 s 60", "80 s 20"},
		{"150 150", "39 r 100"},
		{"20 r 20", "100 s 1"},
		{"s 39 r s 40", "r 20 s 5"},
	} {
		eachChoice(t, scripts, []int{-1, -1})
		for fuse := range 5 {
			eachChoice(t, scripts, []int{fuse, -1})
			eachChoice(t, scripts, []int{-1, fuse})
		}
	}
}

func eachChoice(t *testing.T, scripts []string, fuses []int) {
	t.Helper()
	pending := lives(t, scripts, fuses, []int{0, 0})
	if slices.Max(pending) > 12 {
		t.Fatalf("%q: %v sectors are pending: more than are touched", scripts, pending)
	}
	first := pending[0]
	for one := range 1 << first {
		second := lives(t, scripts, fuses, []int{one, 0})[1]
		lives(t, scripts, fuses, []int{one, 1<<second - 1})
		lives(t, scripts, fuses, []int{one, one * 37 >> 2})
	}
	for _, one := range []int{0, 1<<first - 1, 1<<first - 2} {
		second := lives(t, scripts, fuses, []int{one, 0})[1]
		for two := range 1 << second {
			lives(t, scripts, fuses, []int{one, two})
		}
	}
}

// P17.2, P17.3: behind three lives, with each choice of what is pending in each of them.
func TestEachCrashOfThreeLives(t *testing.T) {
	for _, scripts := range [][]string{
		{"20", "70", "20"},
		{"70", "20", "70"},
		{"110", "1", "39 s"},
		{"20 s 20", "60 s", "20"},
		{"40", "r 40", "40"},
		{"20 r", "20 s 20 r", "70"},
		{"150", "s r 20", "r 110"},
	} {
		everyChoice(t, scripts, nil)
	}
}

// everyChoice: keeps are those of the first lives; each choice of the next ones.
func everyChoice(t *testing.T, scripts []string, keeps []int) {
	t.Helper()
	i := len(keeps)
	if i == len(scripts) {
		return
	}
	pending := lives(t, scripts[:i+1], []int{-1, -1, -1}, append(slices.Clone(keeps), 0))[i]
	if pending > 8 {
		t.Fatalf("%q: %d sectors are pending: more than are touched", scripts[:i+1], pending)
	}
	for keep := range 1 << pending {
		next := append(slices.Clone(keeps), keep)
		lives(t, scripts[:i+1], []int{-1, -1, -1}, next)
		everyChoice(t, scripts, next)
	}
}

// P17.2, P17.3: many lives with resets, fuses and crashes of all kinds.
func TestManyLives(t *testing.T) {
	for seed := range 1500 {
		c := chance(seed)
		var scripts []string
		var fuses, keeps []int
		for range 2 + c.below(12) {
			var words []string
			for range c.below(9) {
				words = append(words, c.word())
			}
			scripts = append(scripts, strings.Join(words, " "))
			fuses = append(fuses, c.below(16)-6)
			keep := c.below(1<<20)<<20 | c.below(1<<20)
			switch c.below(5) {
			case 0:
				keep = 0
			case 1:
				keep = -1
			case 2:
				keep = ^keep & ^(keep >> 1) // most are kept
			}
			keeps = append(keeps, keep)
		}
		lives(t, scripts, fuses, keeps)
	}
}

func (c *chance) word() string {
	switch c.below(12) {
	case 0, 1, 2:
		return "s"
	case 3:
		return "r"
	case 4, 5:
		return strconv.Itoa(1 + c.below(312))
	}
	return strconv.Itoa(1 + c.below(80))
}

// P17.2: crashes that keep nothing, and that keep all, of what was not synced.
func TestNothingAndAll(t *testing.T) {
	for _, all := range []bool{false, true} {
		d := fresh(t, 2)
		l := opened(t, d, 0, 2, 1)
		appended(t, l, []byte("a"), ok)
		synced(t, l, ok)
		appended(t, l, letters(160), ok)
		appended(t, l, []byte("c"), ok)
		d.Crash(slices.Repeat([]bool{all}, d.Pending()))
		want := []string{"a"}
		room := 39 * 7
		if all {
			want = []string{"a", string(letters(160)), "c"}
			room = 39
		}
		tells(t, opened(t, d, 0, 2, 1), 1, 2, room, want...)
	}
}

// P17.2: what an older life left behind the end is none of a later one's records: neither one that stands whole, nor one of which the beginning was lost, nor one that a later record would make whole.
func TestLeftByOlderLife(t *testing.T) {
	d := fresh(t, 1)
	l := opened(t, d, 0, 1, 1)
	for _, text := range []string{"a", "b", "c", "d"} {
		appended(t, l, []byte(text), ok)
	}
	d.Crash(bits("0000" + "0100" + "0010" + "0001")) // a is lost, the others stand whole
	l = opened(t, d, 0, 1, 1)
	tells(t, l, 1, 2, 156)
	appended(t, l, []byte("A"), ok)
	synced(t, l, ok)
	tells(t, l, 1, 2, 117, "A")
	l = opened(t, d, 0, 1, 1)
	tells(t, l, 1, 3, 117, "A")
	appended(t, l, []byte("B"), ok)
	synced(t, l, ok)
	tells(t, opened(t, d, 0, 1, 1), 1, 4, 78, "A", "B")

	d = fresh(t, 1)
	l = opened(t, d, 0, 1, 1)
	appended(t, l, letters(78), ok)
	d.Crash(bits("0100")) // the second cell alone stands
	l = opened(t, d, 0, 1, 1)
	tells(t, l, 1, 2, 156)
	appended(t, l, letters(78), ok)
	d.Crash(bits("1000")) // and now the first one, of another life
	tells(t, opened(t, d, 0, 1, 1), 1, 3, 156)
}

// P17.2: what an older epoch left is none of a later one's records, though a life had both.
func TestLeftByOlderEpoch(t *testing.T) {
	d := fresh(t, 1)
	l := opened(t, d, 0, 1, 1)
	for _, text := range []string{"a", "b", "c"} {
		appended(t, l, []byte(text), ok)
	}
	synced(t, l, ok)
	begun(t, l, 2, ok)
	appended(t, l, []byte("A"), ok)
	tells(t, opened(t, d, 0, 1, 2), 2, 2, 117, "A")
	d.Crash(nil)
	tells(t, opened(t, d, 0, 1, 2), 2, 2, 156)
	tells(t, opened(t, d, 0, 1, 1), 1, 2, 39, "a", "b", "c")
}

// P17.3: opened again, as often as it is, it has the same, with a life more only if something was written.
func TestOpenedAgain(t *testing.T) {
	d := fresh(t, 3)
	l := opened(t, d, 1, 2, 8)
	var records []string
	for life := uint64(1); life < 9; life++ {
		tells(t, l, 8, life, 39*(8-int(life-1)), records...)
		b := bytes.Repeat([]byte{byte(life)}, 4*int(life))
		appended(t, l, b, ok)
		records = append(records, string(b))
		for range 3 {
			l = opened(t, d, 1, 2, 8)
			tells(t, l, 8, life+1, 39*(8-int(life)), records...)
		}
	}
}

// R5: the same calls are answered alike.
func TestAnsweredAlike(t *testing.T) {
	var first []byte
	for round := range 3 {
		c := chance(7)
		p := &pair{disk: fresh(t, 4), saidDisk: fresh(t, 4)}
		var told []byte
		for i := range 300 {
			e, _ := c.anyStep(1, 2, 1+uint64(i/50)).do(p)
			told = append(told, byte(e), byte(p.logs[0].Life()), byte(p.logs[0].Room()))
			told = append(told, p.disk.Dump()...)
		}
		if round == 0 {
			first = told
		}
		if !bytes.Equal(told, first) {
			t.Error("the same calls are answered otherwise")
		}
	}
}
