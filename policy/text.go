package policy

import (
	"slices"
	"strconv"
	"strings"

	"marginalia/api"
	"marginalia/kind"
)

// Parse: the policy of a text.
func Parse(s string) (api.Policy, int, api.Errno) {
	if len(s) > api.MaxPolicy {
		return api.Policy{}, 0, api.ErrLarge
	}
	p, bad := read(s)
	if bad > 0 {
		return api.Policy{}, bad, api.ErrText
	}
	if e := Check(p); e != api.OK {
		return api.Policy{}, 0, e
	}
	return p, 0, api.OK
}

// Print: a policy's text.
func Print(p api.Policy) (string, api.Errno) {
	if e := Check(p); e != api.OK {
		return "", e
	}
	var out strings.Builder
	put(&out, "deep", strconv.Itoa(p.Deep))
	for _, r := range p.Rules {
		put(&out, "element", slices.Concat([]string{r.Name}, r.Attrs)...)
	}
	put(&out, "link", p.Links...)
	put(&out, "scheme", p.Schemes...)
	put(&out, "drop", p.Drops...)
	return out.String(), api.OK
}

// put: writes a line of a first word and others, or none, if there are no others.
func put(out *strings.Builder, first string, others ...string) {
	if len(others) == 0 {
		return
	}
	out.WriteString(first)
	for _, word := range others {
		out.WriteString(" ")
		out.WriteString(word)
	}
	out.WriteString("\n")
}

// read: what a text says, and 0; or nothing, and the number of the first line that says something else.
func read(s string) (p api.Policy, bad int) {
	number := 0
	defer func() {
		// The number stands still where the panic left it: at the line that was being taken.
		if recover() != nil {
			p, bad = api.Policy{}, number
		}
	}()
	for _, line := range strings.Split(s, "\n") {
		number++
		take(&p, line)
	}
	return p, 0
}

// take: adds to a policy what a line says; it panics, if that is something else.
func take(p *api.Policy, line string) {
	words := wordsOf(line)
	if len(words) == 0 || line[0] == '#' {
		return
	}
	others := words[1:]
	switch words[0] {
	case "deep":
		p.Deep = depth(others)
	case "element":
		p.Rules = append(p.Rules, rule(others))
	case "link":
		p.Links = append(p.Links, others...)
	case "scheme":
		p.Schemes = append(p.Schemes, others...)
	case "drop":
		p.Drops = append(p.Drops, others...)
	default:
		panic(api.ErrText)
	}
}

// wordsOf: what stands between blanks. A tab, or any other space, is a byte of a word.
func wordsOf(line string) []string {
	return strings.FieldsFunc(line, func(c rune) bool { return c == ' ' })
}

// depth: the number that stands behind `deep`; it panics, if just this is not there.
func depth(words []string) int {
	if len(words) != 1 || !numberMayBe(words[0]) {
		panic(api.ErrText)
	}
	n, _ := strconv.Atoi(words[0])
	return n
}

// numberMayBe: are these 1 or 2 figures, with no nought ahead of another one?
func numberMayBe(word string) bool {
	switch len(word) {
	case 1:
		return kind.Figure(word[0])
	case 2:
		return kind.Figure(word[0]) && kind.Figure(word[1]) && word[0] != '0'
	}
	return false
}

// rule: the rule of the words behind `element`; it panics, if there are none.
func rule(words []string) api.Rule {
	if len(words) == 0 {
		panic(api.ErrText)
	}
	return api.Rule{Name: words[0], Attrs: append([]string(nil), words[1:]...)}
}
