package pager

import (
	"encoding/binary"
	"fmt"
	"slices"
	"strings"
	"testing"

	"marginalia/api"
	"marginalia/disk"
)

// said is a second reading of the chapter: the pages are a text, a letter each: . not used, u used, f fresh, d dropped. Heads are laid by the library.
type said struct {
	disk       *disk.Disk
	first      int
	pages      string
	generation uint64
	root       int
	epoch      uint64
	broken     bool
}

func saidOpen(d *disk.Disk, first, size int) (*said, api.Errno) {
	if first < 0 || first >= d.Blocks() || size < 3 || size > d.Blocks() || first+size > d.Blocks() {
		return nil, errArg
	}
	if _, e := d.Read(0); e != ok {
		return nil, errDown
	}
	s := &said{disk: d, first: first, pages: strings.Repeat(".", size-2), root: -1, epoch: 1}
	for n := range 2 {
		b := blockOf(d, first+n)[:64]
		generation, above, epoch := binary.BigEndian.Uint64(b), binary.BigEndian.Uint64(b[8:]), binary.BigEndian.Uint64(b[16:])
		switch {
		case string(b) != sector(generation, above, epoch), generation%2 != uint64(n), above > uint64(size-2):
		case generation > s.generation:
			s.generation, s.root, s.epoch = generation, int(above)-1, epoch
		}
	}
	return s, ok
}

// is: is a page one of those letters?
func (s *said) is(i int, letters string) bool {
	return s != nil && i >= 0 && i < len(s.pages) && strings.Contains(letters, s.pages[i:i+1])
}

func (s *said) set(i int, letter string) { s.pages = s.pages[:i] + letter + s.pages[i+1:] }

func (s *said) use(l []int) api.Errno {
	if s == nil {
		return errArg
	}
	next := said{pages: strings.Repeat(".", len(s.pages))}
	for _, i := range l {
		if !next.is(i, ".") {
			return errArg
		}
		next.set(i, "u")
	}
	s.pages = next.pages
	return ok
}

func (s *said) read(i int) ([]byte, api.Errno) {
	if !s.is(i, "ufd") {
		return nil, errArg
	}
	return s.disk.Read(s.first + 2 + i)
}

func (s *said) take() (int, api.Errno) {
	if s == nil {
		return 0, errArg
	}
	i := strings.Index(s.pages, ".")
	if i < 0 {
		return 0, errFull
	}
	s.set(i, "f")
	return i, ok
}

func (s *said) write(i int, b []byte) api.Errno {
	if !s.is(i, "f") || len(b) != 256 {
		return errArg
	}
	return s.lay(2+i, b)
}

// lay: a block of the region, if it is not broken.
func (s *said) lay(n int, b []byte) api.Errno {
	if s.broken {
		return errDown
	}
	e := s.disk.Write(s.first+n, b)
	s.broken = e != ok
	return e
}

// flush: if it is not broken.
func (s *said) flush() api.Errno {
	if s.broken {
		return errDown
	}
	e := s.disk.Flush()
	s.broken = e != ok
	return e
}

func (s *said) drop(i int) api.Errno {
	switch {
	case s.is(i, "f"):
		s.set(i, ".")
	case s.is(i, "u"):
		s.set(i, "d")
	default:
		return errArg
	}
	return ok
}

func (s *said) commit(root int, epoch uint64) api.Errno {
	if s == nil || root != -1 && !s.is(root, "uf") || epoch < s.epoch {
		return errArg
	}
	generation := s.generation + 1
	if generation == 0 && !s.broken {
		return errFull
	}
	b := make([]byte, 256)
	copy(b, sector(generation, uint64(root+1), epoch))
	for _, do := range []func() api.Errno{s.flush, func() api.Errno { return s.lay(int(generation%2), b) }, s.flush} {
		if e := do(); e != ok {
			return e
		}
	}
	s.generation, s.root, s.epoch = generation, root, epoch
	s.pages = strings.NewReplacer("d", ".", "f", "u").Replace(s.pages)
	return ok
}

func (s *said) undo() {
	if s != nil {
		s.pages = strings.NewReplacer("d", "u", "f", ".").Replace(s.pages)
	}
}

// pair is a disk with up to two pagers, and the same as it is said.
type pair struct {
	disk, saidDisk *disk.Disk
	pagers         [2]*Pager // the newest one first
	said           [2]*said
}

// step is one call on both: what is told, and what is said.
type step struct {
	name string
	do   func(p *pair) (got, want string)
}

func answer(i int, e api.Errno) string { return fmt.Sprintf("%d, %d", i, e) }

func openOf(first, size int) step {
	return step{fmt.Sprintf("Open(%d, %d)", first, size), func(p *pair) (string, string) {
		q, e := Open(p.disk, first, size)
		s, f := saidOpen(p.saidDisk, first, size)
		p.pagers[1], p.said[1] = p.pagers[0], p.said[0]
		p.pagers[0], p.said[0] = q, s
		return answer(0, e), answer(0, f)
	}}
}

func takeStep() step {
	return step{"Take", func(p *pair) (string, string) {
		i, e := p.pagers[0].Take()
		k, f := p.said[0].take()
		return answer(i, e), answer(k, f)
	}}
}

// errnoStep: one that tells an error alone.
func errnoStep(name string, do func(p *Pager) api.Errno, say func(s *said) api.Errno) step {
	return step{name, func(p *pair) (string, string) {
		return answer(0, do(p.pagers[0])), answer(0, say(p.said[0]))
	}}
}

func useOf(l ...int) step {
	return errnoStep(fmt.Sprintf("Use(%v)", l), func(p *Pager) api.Errno { return p.Use(l) }, func(s *said) api.Errno { return s.use(l) })
}

func writeOf(i int, b []byte) step {
	return errnoStep(fmt.Sprintf("Write(%d, %d bytes)", i, len(b)), func(p *Pager) api.Errno { return p.Write(i, b) }, func(s *said) api.Errno { return s.write(i, b) })
}

func dropOf(i int) step {
	return errnoStep(fmt.Sprintf("Drop(%d)", i), func(p *Pager) api.Errno { return p.Drop(i) }, func(s *said) api.Errno { return s.drop(i) })
}

func commitOf(root int, epoch uint64) step {
	return errnoStep(fmt.Sprintf("Commit(%d, %d)", root, epoch), func(p *Pager) api.Errno { return p.Commit(root, epoch) }, func(s *said) api.Errno { return s.commit(root, epoch) })
}

func undoStep() step {
	return errnoStep("Undo", func(p *Pager) api.Errno { p.Undo(); return ok }, func(s *said) api.Errno { s.undo(); return ok })
}

// otherStep: from now on the calls are those of the pager that was opened ahead.
func otherStep() step {
	return step{"the other one", func(p *pair) (string, string) {
		p.pagers[0], p.pagers[1] = p.pagers[1], p.pagers[0]
		p.said[0], p.said[1] = p.said[1], p.said[0]
		return "", ""
	}}
}

// diskStep: what somebody else does to the disk.
func diskStep(name string, do func(d *disk.Disk) api.Errno) step {
	return step{name, func(p *pair) (string, string) { return answer(0, do(p.disk)), answer(0, do(p.saidDisk)) }}
}

func fuseOf(k int) step {
	return diskStep(fmt.Sprintf("Fuse(%d)", k), func(d *disk.Disk) api.Errno { d.Fuse(k); return ok })
}

func crashOf(keep ...bool) step {
	return diskStep(fmt.Sprintf("Crash(%v)", keep), func(d *disk.Disk) api.Errno { d.Crash(keep); return ok })
}

// headStep: a head, right or not, that somebody else lays.
func headStep(n int, generation, above, epoch uint64) step {
	return diskStep(fmt.Sprintf("a head %d in block %d", generation, n), func(d *disk.Disk) api.Errno {
		return d.Write(n, []byte(strings.Repeat(sector(generation, above, epoch), 4)))
	})
}

// differ: what a pager tells otherwise than it is said; empty: nothing.
func differ(p *Pager, s *said) string {
	if s == nil {
		s = &said{root: -1}
	} else if p == nil {
		return "there is none"
	}
	got := fmt.Sprint(p.Pages(), p.Free(), p.Generation(), p.Root(), p.Epoch())
	want := fmt.Sprint(len(s.pages), strings.Count(s.pages, "."), s.generation, s.root, s.epoch)
	if got != want {
		return fmt.Sprintf("Pages, Free, Generation, Root, Epoch: %s, not %s", got, want)
	}
	for i := -1; i <= len(s.pages); i++ {
		b, e := p.Read(i)
		c, f := s.read(i)
		if e != f || !slices.Equal(b, c) {
			return fmt.Sprintf("Read(%d): %d, not %d, or others", i, e, f)
		}
	}
	return ""
}

func (p *pair) differ() string {
	for i := range p.pagers {
		if bad := differ(p.pagers[i], p.said[i]); bad != "" {
			return bad
		}
	}
	if p.disk.Pending() != p.saidDisk.Pending() {
		return fmt.Sprintf("%d sectors are pending, not %d", p.disk.Pending(), p.saidDisk.Pending())
	}
	if !slices.Equal(p.disk.Dump(), p.saidDisk.Dump()) {
		return "the disk"
	}
	return ""
}

// run: the steps, one by one, on a fresh disk; what is told is held against what is said behind each of them that is not among the first ones.
func run(t *testing.T, blocks, first int, steps []step) {
	t.Helper()
	p := &pair{disk: fresh(t, blocks), saidDisk: fresh(t, blocks)}
	for i, x := range steps {
		got, want := x.do(p)
		if i < first && got == want {
			continue
		}
		if bad := p.differ(); got != want || bad != "" {
			var names []string
			for _, y := range steps[max(0, i-15) : i+1] {
				names = append(names, y.name)
			}
			t.Fatalf("step %d, behind %s: %s, not %s; %s", i, strings.Join(names, ", "), got, want, bad)
		}
	}
}

// everyScript: all scripts of just so many of the steps, behind those that are ahead.
func everyScript(t *testing.T, blocks int, ahead []step, long int, steps []step) {
	t.Helper()
	script := slices.Clone(ahead)
	var lay func(more int)
	lay = func(more int) {
		if more == 0 {
			run(t, blocks, len(script)-1, script) // shorter ones are scripts of their own
			return
		}
		for _, x := range steps {
			script = append(script, x)
			lay(more - 1)
			script = script[:len(script)-1]
		}
	}
	lay(long)
}

// P19.1: all short scripts of calls, wrong ones too.
func TestEveryScript(t *testing.T) {
	steps := []step{
		openOf(1, 4), openOf(0, 5), openOf(1, 5), openOf(3, 2),
		useOf(), useOf(1), useOf(1, 0), useOf(1, 1), useOf(2, 0), takeStep(), undoStep(),
		writeOf(0, fill(7)), writeOf(1, fill(8)), writeOf(0, fill(9)[:255]), writeOf(2, fill(9)),
		dropOf(0), dropOf(1), dropOf(2), dropOf(-1),
		commitOf(-1, 1), commitOf(0, 2), commitOf(1, 1), commitOf(2, 3), commitOf(0, 0),
		fuseOf(0), fuseOf(1), fuseOf(2), crashOf(), crashOf(true, false, false, false, false, true, true), otherStep(),
		headStep(1, 2, 1, 5), headStep(2, 2, 1, 5), headStep(2, most64, 2, 1), headStep(1, most64-1, 0, 1),
	}
	for long := range 3 {
		everyScript(t, 5, nil, long, steps)
	}
	for long := 1; long < 4; long++ {
		everyScript(t, 5, []step{openOf(1, 4), takeStep()}, long, steps)
	}
}

// P19.1: all longer scripts of fewer calls.
func TestEveryLongerScript(t *testing.T) {
	everyScript(t, 4, []step{openOf(0, 4), takeStep()}, 5, []step{
		takeStep(), undoStep(), dropOf(0), dropOf(1), commitOf(-1, 1), commitOf(0, 1), useOf(1), writeOf(0, fill(7)), writeOf(1, fill(8)),
	})
	everyScript(t, 4, []step{openOf(0, 4), takeStep(), commitOf(0, 1)}, 4, []step{
		openOf(0, 4), takeStep(), dropOf(0), commitOf(0, 1), commitOf(1, 2), fuseOf(0), fuseOf(1), fuseOf(2), writeOf(1, fill(8)), crashOf(), crashOf(true),
	})
}

// chance: numbers by a plain rule.
type chance uint64

func (c *chance) below(n int) int {
	*c = *c*6364136223846793005 + 1442695040888963407
	return int(*c>>33) % n
}

func (c *chance) bits(most int) []bool {
	out := make([]bool, c.below(most+1))
	for i := range out {
		out[i] = c.below(3) > 0
	}
	return out
}

// list: some pages, in any order, now and then with a wrong one among them.
func (c *chance) list(pages int) []int {
	out := first(pages)
	for i := range out {
		k := i + c.below(pages-i)
		out[i], out[k] = out[k], out[i]
	}
	out = out[:c.below(pages+1)]
	if c.below(3) == 0 {
		out = slices.Insert(out, c.below(len(out)+1), []int{-1, pages, c.below(pages)}[c.below(3)])
	}
	return out
}

// anyStep: one of all calls, for a region of so many pages from the block 1 on.
func (c *chance) anyStep(pages int, epoch uint64) step {
	i := c.below(pages)
	switch which := c.below(100); {
	case which < 30:
		return takeStep()
	case which < 45:
		return writeOf(i, fill(byte(c.below(256))))
	case which < 65:
		return dropOf(i)
	case which < 80:
		return commitOf(i-c.below(2), epoch)
	case which < 84:
		return undoStep()
	case which < 88:
		return useOf(c.list(pages)...)
	case which < 90:
		return writeOf(i, make([]byte, 255+c.below(3)))
	case which < 91:
		return otherStep()
	case which < 93:
		return fuseOf(c.below(9) - 1)
	case which < 96:
		return crashOf(c.bits(40)...)
	case which < 97:
		return headStep(1+c.below(2), uint64(c.below(60)), uint64(c.below(pages+3)), epoch)
	}
	return openOf(1, 2+pages)
}

// P19.1: long scripts of all calls, in regions of some sizes.
func TestLongScripts(t *testing.T) {
	for seed := range 200 {
		c := chance(seed)
		pages := []int{1, 2, 3, 5, 8, 13, 30, 65}[seed%8]
		steps := []step{openOf(1, 2+pages)}
		for i := range 400 {
			steps = append(steps, c.anyStep(pages, uint64(1+i/50+c.below(2))))
		}
		run(t, pages+4, 0, steps)
	}
}

// P19.1: long scripts of calls that are no error for the most part, without crashes, so that many commits come.
func TestManyCommits(t *testing.T) {
	for seed := range 20 {
		c := chance(seed)
		steps := []step{openOf(1, 22)}
		for range 1500 {
			switch i := c.below(20); c.below(4) {
			case 0, 1:
				steps = append(steps, takeStep(), writeOf(i, fill(byte(i))))
			case 2:
				steps = append(steps, dropOf(i), dropOf(19-i))
			case 3:
				steps = append(steps, commitOf(i, 1), commitOf(-1, 1))
			}
		}
		run(t, 25, 0, steps)
	}
}
