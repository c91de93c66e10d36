package pager

import (
	"bytes"
	"fmt"
	"maps"
	"slices"
	"strconv"
	"strings"
	"testing"

	"marginalia/api"
	"marginalia/disk"
)

// kept is a commit: its state, and the pages that were used and not dropped at it, as they were.
type kept struct {
	generation uint64
	root       int
	epoch      uint64
	pages      map[int]string
}

// account is what P19.2 asks of a region of 3 pages from the block 1 on: the last commit that was OK, and, if one was cut off, that.
type account struct {
	disk  *disk.Disk
	last  kept
	cut   *kept
	used  map[int]bool // of the life that goes on; true: dropped
	fills byte
}

func newAccount(t *testing.T) *account {
	return &account{disk: fresh(t, 7), last: kept{root: -1, epoch: 1}}
}

// open: the pager of what is there behind a crash: it has one of the commits that may be. Its pages are used then.
func (a *account) open(t *testing.T, about string) *Pager {
	t.Helper()
	p := opened(t, a.disk, 1, 5)
	if a.cut != nil && p.Generation() == a.cut.generation {
		a.last = *a.cut
	}
	a.cut = nil
	k := a.last
	if p.Generation() != k.generation || p.Root() != k.root || p.Epoch() != k.epoch {
		t.Fatalf("%s: Generation %d, Root %d, Epoch %d, not %d, %d, %d", about, p.Generation(), p.Root(), p.Epoch(), k.generation, k.root, k.epoch)
	}
	uses(t, p, slices.Collect(maps.Keys(k.pages)), ok)
	a.same(t, about)
	a.used = map[int]bool{}
	for i := range k.pages {
		a.used[i] = false
	}
	return p
}

// same: P19.3: the last commit's pages are as they were.
func (a *account) same(t *testing.T, about string) {
	t.Helper()
	for i, text := range a.last.pages {
		if string(blockOf(a.disk, 3+i)) != text {
			t.Fatalf("%s: the page %d of the commit %d is another one", about, i, a.last.generation)
		}
	}
}

// live: what is done with a pager, word by word: t: a page is taken and written; T: taken alone; w and a page: written, if it is fresh; d and a page: dropped; c: a commit; n: one of no root; u: Undo. It ends when the power is off.
func (a *account) live(t *testing.T, p *Pager, script string) {
	t.Helper()
	for _, word := range strings.Fields(script) {
		i, _ := strconv.Atoi(word[1:])
		e := ok
		switch word[0] {
		case 't', 'T':
			if i, e = p.Take(); e != ok {
				continue
			}
			a.used[i] = false
			if word == "t" {
				e = a.write(p, i)
			}
		case 'w':
			e = a.write(p, i)
		case 'd':
			a.drop(p, i)
		case 'c', 'n':
			e = a.commit(p, word)
		case 'u':
			p.Undo()
			a.used = map[int]bool{}
			for i := range a.last.pages {
				a.used[i] = false
			}
		}
		a.same(t, script)
		if e == errDown {
			return
		}
	}
}

func (a *account) write(p *Pager, i int) api.Errno {
	a.fills++
	return p.Write(i, fill(a.fills))
}

func (a *account) drop(p *Pager, i int) {
	if p.Drop(i) != ok {
		return
	}
	a.used[i] = true
	if _, is := a.last.pages[i]; !is {
		delete(a.used, i)
	}
}

// commit: of the least page as its root, that is used and not dropped.
func (a *account) commit(p *Pager, word string) api.Errno {
	next := kept{generation: p.Generation() + 1, root: -1, epoch: p.Epoch() + uint64(a.fills%2), pages: map[int]string{}}
	for i, dropped := range a.used {
		if !dropped {
			next.pages[i] = string(blockOf(a.disk, 3+i))
		}
	}
	if word == "c" && len(next.pages) > 0 {
		next.root = slices.Min(slices.Collect(maps.Keys(next.pages)))
	}
	e := p.Commit(next.root, next.epoch)
	if e != ok {
		a.cut = &next
		return e
	}
	a.last = next
	maps.DeleteFunc(a.used, func(_ int, dropped bool) bool { return dropped })
	return ok
}

// mask: so many, by the bits of a number.
func mask(number, many int) []bool {
	out := make([]bool, many)
	for i := range out {
		out[i] = number>>i&1 == 1
	}
	return out
}

// lives: scripts of a life each, with a fuse (none: below 0) and a crash behind it that keeps what a number's bits say. It tells how many sectors were pending ahead of each crash.
func lives(t *testing.T, scripts []string, fuses, keeps []int) []int {
	t.Helper()
	a := newAccount(t)
	about := fmt.Sprintf("%q, fuses %v, keeps %b", scripts, fuses, keeps)
	var pending []int
	for i, script := range scripts {
		p := a.open(t, about)
		if fuses[i] >= 0 {
			a.disk.Fuse(fuses[i])
		}
		a.live(t, p, script)
		pending = append(pending, a.disk.Pending())
		a.disk.Crash(mask(keeps[i], a.disk.Pending()))
	}
	a.open(t, about)
	return pending
}

// P19.2: behind two lives, with the power that goes at each write and flush of the first one's commits, or ahead of them, with each choice of what a crash keeps.
func TestEachCrash(t *testing.T) {
	for _, scripts := range [][]string{
		{"t c", "t c"},
		{"t c t d0 c", "t d1 c"},
		{"t t n", "d0 c"},
		{"t c d0 t c", "t c t c"},
		{"T c t d1 t c", "d0 u t c"},
		{"t c t t w1", "t c"},
		{"t t d0 t c d0 d1 n t c", "t"},
		{"c c", "n t c"},
	} {
		for fuse := -1; fuse < 16; fuse++ {
			pending := lives(t, scripts, []int{fuse, -1}, []int{0, 0})
			if pending[0] > 12 {
				t.Fatalf("%q: %d sectors are pending: more than are touched", scripts, pending[0])
			}
			for keep := range 1 << pending[0] {
				lives(t, scripts, []int{fuse, -1}, []int{keep, 0})
			}
		}
	}
}

// P19.2: behind two lives with a fuse at each place in each of them, with some choices of what the first crash keeps, and each of what the second one does.
func TestEachCrashOfTwo(t *testing.T) {
	for _, scripts := range [][]string{
		{"t c t d0 c", "t d1 c d0 c"},
		{"t t c", "d0 t c t d1 c"},
		{"t n t c", "u t d0 c c"},
	} {
		for fuse := range 10 {
			for other := -1; other < 10; other++ {
				for _, keep := range []int{0, 1, 2, 14, 15, -1} {
					pending := lives(t, scripts, []int{fuse, other}, []int{keep, 0})[1]
					for last := range 1 << min(pending, 8) {
						lives(t, scripts, []int{fuse, other}, []int{keep, last})
					}
				}
			}
		}
	}
}

// P19.2, P19.3: many lives of any calls, with fuses and crashes of all kinds.
func TestManyLives(t *testing.T) {
	for seed := range 3000 {
		c := chance(seed)
		var scripts []string
		var fuses, keeps []int
		for range 1 + c.below(8) {
			var words []string
			for range c.below(14) {
				words = append(words, c.word())
			}
			scripts = append(scripts, strings.Join(words, " "))
			fuses = append(fuses, c.below(20)-6)
			keeps = append(keeps, []int{0, -1, 1, c.below(1 << 20), c.below(1<<20) << 10}[c.below(5)])
		}
		lives(t, scripts, fuses, keeps)
	}
}

func (c *chance) word() string {
	i := strconv.Itoa(c.below(4))
	return []string{"t", "t", "T", "w" + i, "d" + i, "d" + i, "c", "c", "n", "u"}[c.below(10)]
}

// P19.2: of a commit that is cut off at its last flush the head is kept or not: the new state, or the old one, and no other.
func TestOldOrNew(t *testing.T) {
	for keep := range 16 {
		d := fresh(t, 6)
		p := opened(t, d, 0, 6)
		takes(t, p, 0)
		writes(t, p, 0, fill(1), ok)
		commits(t, p, 0, 5, ok)
		takes(t, p, 1)
		writes(t, p, 1, fill(2), ok)
		drops(t, p, 0, ok)
		d.Fuse(2)
		commits(t, p, 1, 6, errDown)
		d.Crash(mask(keep, 4))
		q := opened(t, d, 0, 6)
		if keep&1 == 0 {
			tells(t, q, 1, 0, 5)
		} else {
			tells(t, q, 2, 1, 6)
		}
		uses(t, q, []int{0, 1}, ok)
		reads(t, q, 0, 1)
		reads(t, q, 1, 2)
	}
}

// P19.2: a pager that is opened without a crash has the state, too.
func TestOpenedWithoutCrash(t *testing.T) {
	for seed := range 50 {
		c := chance(seed)
		a := newAccount(t)
		for range 20 {
			p := a.open(t, "without a crash")
			for range 6 {
				a.live(t, p, c.word())
			}
		}
	}
}

// P19.3: a page of the last commit is not taken and not written, dropped or not, till another commit has dropped it.
func TestNeverWrittenOver(t *testing.T) {
	d := fresh(t, 6)
	p := opened(t, d, 0, 6)
	takes(t, p, 0, 1)
	writes(t, p, 0, fill(1), ok)
	writes(t, p, 1, fill(2), ok)
	commits(t, p, 0, 1, ok)
	stay := func() {
		t.Helper()
		for _, i := range []int{0, 1} {
			writes(t, p, i, fill(9), errArg)
		}
		if !bytes.Equal(blockOf(d, 2), fill(1)) || !bytes.Equal(blockOf(d, 3), fill(2)) {
			t.Fatal("a page of the last commit is written over")
		}
	}
	stay()
	drops(t, p, 0, ok)
	stay()
	takes(t, p, 2, 3)
	full(t, p)
	stay()
	drops(t, p, 1, ok)
	full(t, p)
	p.Undo()
	stay()
	drops(t, p, 1, ok)
	takes(t, p, 2)
	writes(t, p, 2, fill(3), ok)
	commits(t, p, 1, 1, errArg)
	commits(t, p, 2, 0, errArg)
	stay()
	commits(t, p, 2, 1, ok)
	writes(t, p, 1, fill(4), errArg)
	takes(t, p, 1)
	writes(t, p, 1, fill(4), ok)
	writes(t, p, 0, fill(5), errArg)
}

// P19.3: behind a commit that was cut off nothing is written over, neither of the old one nor of the new one.
func TestNeverWrittenOverBehindCut(t *testing.T) {
	for fuse := range 3 {
		d := fresh(t, 6)
		p := opened(t, d, 0, 6)
		takes(t, p, 0)
		writes(t, p, 0, fill(1), ok)
		commits(t, p, 0, 1, ok)
		drops(t, p, 0, ok)
		takes(t, p, 1)
		writes(t, p, 1, fill(2), ok)
		d.Flush()
		d.Fuse(fuse)
		commits(t, p, 1, 1, errDown)
		d.Crash([]bool{true, true, true, true})
		dump := d.Dump()
		takes(t, p, 2)
		p.Undo()
		takes(t, p, 1)
		for i := range 4 {
			if p.Write(i, fill(9)) == ok {
				t.Fatalf("fuse %d: the page %d is written", fuse, i)
			}
		}
		if !bytes.Equal(d.Dump(), dump) {
			t.Fatalf("fuse %d: something is written", fuse)
		}
	}
}

// R5: the same calls are answered alike, whatever order a map has: pages that are given back at once are told by their numbers.
func TestAnsweredAlike(t *testing.T) {
	for range 20 {
		d := fresh(t, 40)
		p := opened(t, d, 0, 40)
		takes(t, p, first(38)...)
		for i := 1; i < 38; i += 3 {
			drops(t, p, i, ok)
		}
		p.Undo()
		takes(t, p, first(38)...)
		commits(t, p, 0, 1, ok)
		for i := 37; i > 0; i -= 2 {
			drops(t, p, i, ok)
		}
		commits(t, p, 0, 1, ok)
		for i := 1; i < 38; i += 2 {
			takes(t, p, i)
		}
		full(t, p)
	}
}
