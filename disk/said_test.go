package disk

import (
	"fmt"
	"strings"
	"testing"

	"marginalia/api"
)

// said is a second reading of the chapter: a disk is what was flushed of each sector, and the sectors that pend; all else is worked out of these.
type said struct {
	flushed []string   // by sectors, of all blocks
	pending []saidLaid // in order
	fuses   []int      // none, or how much is left of the one that is there
	off     bool
}

type saidLaid struct {
	sector int
	bytes  string
}

func newSaid(blocks int) *said {
	s := &said{}
	for range 4 * blocks {
		s.flushed = append(s.flushed, strings.Repeat("\x00", 64))
	}
	return s
}

func (s *said) blocks() int { return len(s.flushed) / 4 }

// sector: as the last write of it that counts laid it, or as it was flushed.
func (s *said) sector(n int, counts func(i int) bool) string {
	for i := len(s.pending) - 1; i >= 0; i-- {
		if s.pending[i].sector == n && counts(i) {
			return s.pending[i].bytes
		}
	}
	return s.flushed[n]
}

func (s *said) all(counts func(i int) bool) []string {
	var out []string
	for n := range s.flushed {
		out = append(out, s.sector(n, counts))
	}
	return out
}

func every(int) bool { return true }

func (s *said) dump() string { return strings.Join(s.all(every), "") }

func (s *said) read(n int) (string, api.Errno) {
	switch {
	case n < 0 || n >= s.blocks():
		return "", errArg
	case s.off:
		return "", errDown
	}
	return s.dump()[256*n : 256*n+256], ok
}

// spend: one more write or flush; false: it is not done.
func (s *said) spend() bool {
	if s.off {
		return false
	}
	if len(s.fuses) == 0 {
		return true
	}
	s.fuses[0]--
	s.off = s.fuses[0] < 0
	return !s.off
}

func (s *said) write(n int, b string) api.Errno {
	switch {
	case n < 0 || n >= s.blocks() || len(b) != 256:
		return errArg
	case !s.spend():
		return errDown
	}
	for i := range 4 {
		s.pending = append(s.pending, saidLaid{sector: 4*n + i, bytes: b[64*i : 64*i+64]})
	}
	return ok
}

func (s *said) flush() api.Errno {
	if !s.spend() {
		return errDown
	}
	s.flushed, s.pending = s.all(every), nil
	return ok
}

func (s *said) fuse(k int) {
	switch {
	case s.off:
	case k < 0:
		s.fuses = []int{0}
	default:
		s.fuses = []int{k}
	}
}

func (s *said) crash(keep []bool) {
	s.flushed = s.all(func(i int) bool { return i < len(keep) && keep[i] })
	s.pending, s.fuses, s.off = nil, nil, false
}

// step is one call on both.
type step struct {
	name string
	do   func(d *Disk, s *said) (got, want api.Errno)
}

func writeOf(n int, b []byte) step {
	return step{fmt.Sprintf("Write(%d, %d bytes)", n, len(b)), func(d *Disk, s *said) (api.Errno, api.Errno) {
		return d.Write(n, b), s.write(n, string(b))
	}}
}

func flushStep() step {
	return step{"Flush", func(d *Disk, s *said) (api.Errno, api.Errno) { return d.Flush(), s.flush() }}
}

func fuseOf(k int) step {
	return step{fmt.Sprintf("Fuse(%d)", k), func(d *Disk, s *said) (api.Errno, api.Errno) {
		d.Fuse(k)
		s.fuse(k)
		return ok, ok
	}}
}

func crashOf(keep []bool) step {
	return step{fmt.Sprintf("Crash(%v)", keep), func(d *Disk, s *said) (api.Errno, api.Errno) {
		d.Crash(keep)
		s.crash(keep)
		return ok, ok
	}}
}

// differ: what the disk tells otherwise than it is said; empty: nothing.
func differ(d *Disk, s *said) string {
	if d.Blocks() != s.blocks() || d.Pending() != len(s.pending) || string(d.Dump()) != s.dump() {
		return fmt.Sprintf("Blocks %d, Pending %d, not %d, %d, or Dump", d.Blocks(), d.Pending(), s.blocks(), len(s.pending))
	}
	for n := -1; n <= s.blocks(); n++ {
		got, e := d.Read(n)
		if want, f := s.read(n); string(got) != want || e != f {
			return fmt.Sprintf("Read(%d): %d, not %d, or its bytes", n, e, f)
		}
	}
	return ""
}

// run: the steps, one by one, on a fresh disk; what is told is held against what is said behind each of them that is not among the first ones.
func run(t *testing.T, blocks, first int, steps []step) {
	t.Helper()
	d, s := fresh(t, blocks), newSaid(blocks)
	for i, x := range steps {
		got, want := x.do(d, s)
		if i < first && got == want {
			continue
		}
		if bad := differ(d, s); got != want || bad != "" {
			var names []string
			for _, y := range steps[:i+1] {
				names = append(names, y.name)
			}
			t.Fatalf("%s: %d, not %d; %s", strings.Join(names, ", "), got, want, bad)
		}
	}
}

// everyScript: all scripts of just so many of the steps.
func everyScript(t *testing.T, blocks, long int, steps []step) {
	t.Helper()
	script := make([]step, long)
	var lay func(at int)
	lay = func(at int) {
		if at == long {
			run(t, blocks, long-1, script) // shorter ones are scripts of their own
			return
		}
		for _, x := range steps {
			script[at] = x
			lay(at + 1)
		}
	}
	lay(0)
}

// P14.1, P14.2, P14.3: all short scripts of calls, wrong ones too.
func TestEveryScript(t *testing.T) {
	steps := []step{
		writeOf(0, pattern(1)), writeOf(0, pattern(2)), writeOf(1, pattern(3)), flushStep(),
		fuseOf(0), fuseOf(1), fuseOf(-1), fuseOf(2),
		crashOf(nil), crashOf(bits("0110")), crashOf(bits("1001101")), crashOf(bits("111111111111111111")),
		writeOf(2, pattern(4)), writeOf(-1, pattern(4)), writeOf(0, pattern(5)[1:]),
	}
	for long := range 5 {
		everyScript(t, 2, long, steps)
	}
}

// P14.1, P14.2, P14.3: all longer scripts of fewer calls.
func TestEveryLongerScript(t *testing.T) {
	steps := []step{writeOf(0, pattern(1)), writeOf(0, pattern(2)), flushStep(), fuseOf(1), crashOf(bits("01101")), crashOf(bits("10010110"))}
	for long := 5; long <= 6; long++ {
		everyScript(t, 1, long, steps)
	}
}

// chance: numbers by a plain rule.
type chance uint32

func (c *chance) below(n int) int {
	*c = *c*1664525 + 1013904223
	return int(*c>>8) % n
}

func (c *chance) list(many int) []bool {
	out := make([]bool, c.below(many+1))
	for i := range out {
		out[i] = c.below(2) == 1
	}
	return out
}

// anyStep: one that is mostly a right write.
func (c *chance) anyStep(blocks int) step {
	switch which := c.below(100); {
	case which < 60:
		return writeOf(c.below(blocks), pattern(c.below(256)))
	case which < 75:
		return flushStep()
	case which < 80:
		return fuseOf(c.below(20) - 1)
	case which < 95:
		return crashOf(c.list(80))
	case which < 98:
		return writeOf(c.below(blocks+2)-1, pattern(c.below(256)))
	}
	return writeOf(c.below(blocks), make([]byte, c.below(520)))
}

// P14.1, P14.2, P14.3: long scripts of all calls on disks of some sizes.
func TestLongScripts(t *testing.T) {
	for seed := range 60 {
		c := chance(seed)
		blocks := 1 + seed%7
		var steps []step
		for range 300 {
			steps = append(steps, c.anyStep(blocks))
		}
		run(t, blocks, 0, steps)
	}
}
