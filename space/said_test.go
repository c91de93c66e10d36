package space

import (
	"fmt"
	"strings"
	"testing"

	"marginalia/api"
)

// said is a second reading of the chapter: a space is a text with a dot for each number that is free, and an x for each that is taken.
type said string

func newSaid(n int) said { return said(strings.Repeat(".", n)) }

func (s said) is(i int, what byte) bool {
	return i >= 0 && i < len(s) && s[i] == what
}

func (s said) with(i int, what string) said {
	return s[:i] + said(what) + s[i+1:]
}

func (s said) take() (said, int, api.Errno) {
	ahead, _, found := strings.Cut(string(s), ".")
	if !found {
		return s, 0, errFull
	}
	return s.with(len(ahead), "x"), len(ahead), ok
}

func (s said) give(i int) (said, api.Errno) {
	if !s.is(i, 'x') {
		return s, errArg
	}
	return s.with(i, "."), ok
}

func (s said) only(l []int) (said, api.Errno) {
	out := newSaid(len(s))
	for _, i := range l {
		if !out.is(i, '.') {
			return s, errArg
		}
		out = out.with(i, "x")
	}
	return out, ok
}

// step is one call on both: what is told, and what is said.
type step struct {
	name string
	do   func(s *Space, k *said) (got, want string)
}

func answer(i int, e api.Errno) string { return fmt.Sprintf("%d, %d", i, e) }

func takeStep() step {
	return step{"Take", func(s *Space, k *said) (string, string) {
		got, e := s.Take()
		next, want, f := k.take()
		*k = next
		return answer(got, e), answer(want, f)
	}}
}

func giveOf(i int) step {
	return step{fmt.Sprintf("Give(%d)", i), func(s *Space, k *said) (string, string) {
		e := s.Give(i)
		next, f := k.give(i)
		*k = next
		return answer(0, e), answer(0, f)
	}}
}

func onlyOf(l ...int) step {
	return step{fmt.Sprintf("Only(%v)", l), func(s *Space, k *said) (string, string) {
		e := s.Only(l)
		next, f := k.only(l)
		*k = next
		return answer(0, e), answer(0, f)
	}}
}

// differ: what the space tells otherwise than it is said; empty: nothing.
func differ(s *Space, k said) string {
	if got, want := s.Free(), strings.Count(string(k), "."); got != want {
		return fmt.Sprintf("Free: %d, not %d", got, want)
	}
	for i := -2; i <= len(k)+1; i++ {
		if got, want := s.Taken(i), k.is(i, 'x'); got != want {
			return fmt.Sprintf("Taken(%d): %t, not %t", i, got, want)
		}
	}
	return ""
}

// run: the steps, one by one, on a fresh space; what is told is held against what is said behind each of them that is not among the first ones.
func run(t *testing.T, n, first int, steps []step) {
	t.Helper()
	s, k := fresh(t, n), newSaid(n)
	for i, x := range steps {
		got, want := x.do(s, &k)
		if i < first && got == want {
			continue
		}
		if bad := differ(s, k); got != want || bad != "" {
			var names []string
			for _, y := range steps[:i+1] {
				names = append(names, y.name)
			}
			t.Fatalf("of %d: %s: %s, not %s; %s", n, strings.Join(names, ", "), got, want, bad)
		}
	}
}

// everyScript: all scripts of up to so many of the steps.
func everyScript(t *testing.T, n, long int, steps []step) {
	t.Helper()
	var lay func(script []step)
	lay = func(script []step) {
		run(t, n, len(script)-1, script)
		if len(script) == long {
			return
		}
		for _, x := range steps {
			lay(append(script[:len(script):len(script)], x))
		}
	}
	lay(nil)
}

// giveSteps: of each number, and of the two beside them that are none.
func giveSteps(n int) []step {
	var out []step
	for i := -1; i <= n; i++ {
		out = append(out, giveOf(i))
	}
	return out
}

// P18.1, P18.2: all short scripts of all calls, wrong ones too.
func TestEveryScript(t *testing.T) {
	everyScript(t, 1, 5, append(giveSteps(1), takeStep(), onlyOf(), onlyOf(0), onlyOf(0, 0), onlyOf(-1), onlyOf(1), onlyOf(0, 1)))
	everyScript(t, 2, 4, append(giveSteps(2), takeStep(), onlyOf(), onlyOf(0), onlyOf(1), onlyOf(0, 1), onlyOf(1, 0), onlyOf(1, 1), onlyOf(0, 2), onlyOf(-1, 0), onlyOf(0, 1, 0)))
	everyScript(t, 3, 4, append(giveSteps(3), takeStep(), onlyOf(), onlyOf(0), onlyOf(1), onlyOf(2), onlyOf(1, 0), onlyOf(2, 0), onlyOf(2, 1), onlyOf(2, 0, 1), onlyOf(2, 2), onlyOf(3, 1), onlyOf(1, -1), onlyOf(0, 2, 1, 2)))
}

// P18.1, P18.2: all longer scripts of fewer calls.
func TestEveryLongerScript(t *testing.T) {
	everyScript(t, 4, 7, []step{takeStep(), giveOf(0), giveOf(1), giveOf(2), giveOf(3), onlyOf(2, 3, 0, 1)})
	everyScript(t, 5, 6, []step{takeStep(), giveOf(0), giveOf(1), giveOf(2), giveOf(3), giveOf(4), onlyOf(4, 3, 2, 1, 0), onlyOf(3, 0)})
}

// chance: numbers by a plain rule.
type chance uint64

func (c *chance) below(n int) int {
	*c = *c*6364136223846793005 + 1442695040888963407
	return int(*c>>33) % n
}

// order: the numbers below n, shuffled.
func (c *chance) order(n int) []int {
	out := first(n)
	for i := range out {
		k := i + c.below(n-i)
		out[i], out[k] = out[k], out[i]
	}
	return out
}

// list: some numbers of a space, now and then with a wrong one among them.
func (c *chance) list(n int) []int {
	out := c.order(n)[:c.below(n+1)]
	if c.below(3) == 0 {
		bad := []int{-1, n, c.below(n)}[c.below(3)]
		out = append(out, bad)
		k := c.below(len(out))
		out[k], out[len(out)-1] = bad, out[k]
	}
	return out
}

// anyStep: one that is mostly a take or a give, of which now the one and then the other is the more likely.
func (c *chance) anyStep(n, mood int) step {
	switch which := c.below(100); {
	case which < 2:
		return onlyOf(c.list(n)...)
	case which < 4:
		return giveOf(c.below(3*n) - n)
	case which < 20+mood:
		return takeStep()
	}
	return giveOf(c.below(n))
}

// P18.1, P18.2: long scripts of all calls on spaces of some sizes.
func TestLongScripts(t *testing.T) {
	for seed := range 150 {
		c := chance(seed)
		n := []int{1, 2, 3, 5, 8, 13, 31, 64, 65, 200}[seed%10]
		var steps []step
		for i := range 1000 {
			steps = append(steps, c.anyStep(n, i/(2*n+1)%2*50))
		}
		run(t, n, 0, steps)
	}
}

// P18.1, P18.2: long scripts on the greatest spaces.
func TestLongScriptsOfMany(t *testing.T) {
	for seed, n := range []int{1000, api.MaxBlocks - 1, api.MaxBlocks, api.MaxBlocks} {
		c := chance(seed)
		steps := []step{onlyOf(c.order(n)...)}
		for i := range 3000 {
			steps = append(steps, c.anyStep(n, i/300%2*70))
		}
		run(t, n, 0, steps)
	}
}
