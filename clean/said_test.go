package clean

import (
	"fmt"
	"slices"
	"strings"
	"testing"

	"marginalia/api"
	"marginalia/build"
	"marginalia/filter"
	"marginalia/input"
	"marginalia/policy"
	"marginalia/print"
	"marginalia/token"
)

// A second reading of the chapter, step by step, and what its promises say of each answer.

// show: nodes, told with all that they have, so that two lists that differ are told differently; nil and the empty list are the same.
func show(l []api.Node) string {
	s := "["
	for _, n := range l {
		s += fmt.Sprintf("{%d %d %q %q %q %s}", n.Kind, n.Space, n.Name, n.Attrs, n.Text, show(n.Kids))
	}
	return s + "]"
}

// saidRead: how a text is read, by this layer.
func saidRead(s string) ([]api.Node, api.Errno) {
	s = input.Lines(input.Decode([]byte(s)))
	return build.Fragment(strings.Join(strings.Split(s, "\x00"), ""))
}

func saidClean(p api.Policy, s string) (string, api.Errno) {
	if policy.Check(p) != 0 {
		return "", 1
	}
	if len(s) > 4096 {
		return "", 4
	}
	l, e := saidRead(s)
	if e != 0 {
		return "", e
	}
	kept := filter.Filter(p, l)
	w := print.Fragment(kept)
	if len(w) > 4096 {
		return "", 4
	}
	if again, e := saidRead(w); e != 0 || show(again) != show(kept) {
		return "", 6
	}
	return w, 0
}

func saidStable(p api.Policy, s string) bool {
	if policy.Check(p) != 0 {
		return false
	}
	l, e := saidRead(s)
	if e != 0 || !policy.Allowed(p, l) {
		return false
	}
	return print.Fragment(l) == s
}

// held: bytes, cleaned as the second reading has it, and all that the promises say of that.
func held(t *testing.T, p api.Policy, s string) (string, api.Errno) {
	t.Helper()
	got, e := Clean(p, []byte(s))
	if want, wrong := saidClean(p, s); got != want || e != wrong {
		t.Fatalf("Clean(%+v, %q): %q, %d; want %q, %d", p, s, got, e, want, wrong)
	}
	if is := Stable(p, s); is != saidStable(p, s) {
		t.Fatalf("Stable(%+v, %q): %v", p, s, is)
	}
	if e == api.OK {
		settled(t, p, got)
		safe(t, p, got)
	}
	lossless(t, p, s)
	return got, e
}

// settled: P13.2 of a text that was told.
func settled(t *testing.T, p api.Policy, s string) {
	t.Helper()
	if !Stable(p, s) || !saidStable(p, s) {
		t.Fatalf("%q is told, and is not stable for %+v", s, p)
	}
	if again, e := Clean(p, []byte(s)); again != s || e != api.OK {
		t.Fatalf("%q is told, and is cleaned as %q, %d by %+v", s, again, e, p)
	}
	l, e := build.Fragment(s)
	if e != api.OK || !policy.Allowed(p, l) || print.Fragment(l) != s || input.Text([]byte(s)) != s {
		t.Fatalf("%q is told, and is read as %s, %d", s, show(l), e)
	}
}

// lossless: P13.3 of bytes that come.
func lossless(t *testing.T, p api.Policy, s string) {
	t.Helper()
	got, e := Clean(p, []byte(s))
	if Stable(p, s) && (got != s || e != api.OK) {
		t.Fatalf("%q is stable for %+v, and is cleaned as %q, %d", s, p, got, e)
	}
	l, wrong := saidRead(s)
	if len(s) > api.MaxInput || wrong != api.OK || !policy.Allowed(p, l) {
		return
	}
	w := print.Fragment(l)
	if again, wrong := saidRead(w); len(w) > api.MaxInput || wrong != api.OK || show(again) != show(l) {
		return
	}
	if got != w || e != api.OK {
		t.Fatalf("%q is read as what %+v allows, written as %q, and is cleaned as %q, %d", s, p, w, got, e)
	}
}

// safe: P13.4 of a text that was told, read as tokens, and as a tree: by itself, as bytes, and within others.
func safe(t *testing.T, p api.Policy, s string) {
	t.Helper()
	for _, k := range token.All(s) {
		if k.Kind == api.TokenStart {
			safeElement(t, p, s, api.Node{Name: k.Name, Attrs: k.Attrs})
		} else if k.Kind != api.TokenText && k.Kind != api.TokenStop {
			t.Fatalf("%q has a token of the kind %d", s, k.Kind)
		}
	}
	for _, around := range []string{"", "\xEF\xBB\xBF", "<p><b>", "<table><tr><td>", "<table>", "<h1><a>", "<ul><li><button>"} {
		l, _ := saidRead(around + s)
		safeList(t, p, s, l)
	}
	l, _ := build.Fragment(s)
	safeList(t, p, s, l)
}

func safeList(t *testing.T, p api.Policy, s string, l []api.Node) {
	t.Helper()
	for _, n := range l {
		if n.Kind == api.NodeComment {
			t.Fatalf("%q has a comment", s)
		}
		safeElement(t, p, s, n)
		safeList(t, p, s, n.Kids)
	}
}

func safeElement(t *testing.T, p api.Policy, s string, n api.Node) {
	t.Helper()
	if n.Space != api.SpaceHtml || slices.Contains(words("iframe noembed noframes script style xmp plaintext svg math"), n.Name) {
		t.Fatalf("%q has an element %q of the space %d", s, n.Name, n.Space)
	}
	for _, a := range n.Attrs {
		link := strings.TrimLeftFunc(a.Value, func(r rune) bool { return r <= 32 })
		link = strings.ToLower(strings.NewReplacer("\t", "", "\n", "", "\r", "").Replace(link))
		if strings.HasPrefix(a.Name, "on") || slices.Contains(p.Links, a.Name) && strings.HasPrefix(link, "javascript:") {
			t.Fatalf("%q has an attribute %q, %q", s, a.Name, a.Value)
		}
	}
}

func words(s string) []string { return strings.Fields(s) }
