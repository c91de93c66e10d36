package policy

import (
	"slices"
	"strings"

	"marginalia/api"
	"marginalia/kind"
)

// tooMany: are there too many rules, or names in a list?
func tooMany(p api.Policy) bool {
	long := func(names []string) bool { return len(names) > api.MaxNames }
	return len(p.Rules) > api.MaxRules || slices.ContainsFunc(lists(p), long)
}

// lists: all that a policy has of lists of names.
func lists(p api.Policy) [][]string {
	all := [][]string{p.Links, p.Schemes, p.Drops}
	for _, r := range p.Rules {
		all = append(all, r.Attrs)
	}
	return all
}

// mayBe: may a policy be, so far as it is not too large?
func mayBe(p api.Policy) bool {
	if p.Deep < 1 || p.Deep > api.MaxDeep || !listMayBe(ruleNames(p)) {
		return false
	}
	for _, names := range lists(p) {
		if !listMayBe(names) {
			return false
		}
	}
	for _, r := range p.Rules {
		if neverElement(r.Name) || slices.ContainsFunc(r.Attrs, neverAttr) || slices.Contains(p.Drops, r.Name) {
			return false
		}
	}
	return !slices.ContainsFunc(p.Schemes, neverScheme)
}

func ruleNames(p api.Policy) []string {
	var names []string
	for _, r := range p.Rules {
		names = append(names, r.Name)
	}
	return names
}

// listMayBe: may all of the names be, and is none of them there twice?
func listMayBe(names []string) bool {
	for i, name := range names {
		if !nameMayBe(name) || slices.Contains(names[:i], name) {
			return false
		}
	}
	return true
}

func nameMayBe(name string) bool {
	if len(name) > api.MaxName || name == "" || !small(name[0]) {
		return false
	}
	for i := range len(name) {
		if c := name[i]; !small(c) && !kind.Figure(c) && c != '-' {
			return false
		}
	}
	return true
}

// small: is a byte a small letter?
func small(c byte) bool { return 'a' <= c && c <= 'z' }

// neverElement: an element that no policy lets, since within a div it, or what is within it, is read by rules of its own.
func neverElement(name string) bool {
	switch name {
	case "math", "noscript", "plaintext", "svg", "template":
		return true
	}
	return kind.Is(api.SetRaw, name) || kind.Is(api.SetRcdata, name) || kind.Is(api.SetSkip, name)
}

// neverAttr: an attribute that no policy lets, since its value is a program, a style or a page of its own.
func neverAttr(name string) bool {
	return strings.HasPrefix(name, "on") || name == "style" || name == "srcdoc"
}

// neverScheme: a scheme that no policy lets, since a link of it is a program or a page of its own.
func neverScheme(name string) bool {
	return name == "data" || name == "javascript" || name == "vbscript"
}
