package build

import (
	"strings"
	"testing"

	"marginalia/api"
)

// short: nodes in short: an element as name(kids), its attributes between brackets, one of another language with that ahead; a text between quotes; a comment between exclamation marks.
func short(l []api.Node) string {
	var b strings.Builder
	for _, n := range l {
		switch n.Kind {
		case api.NodeText:
			b.WriteString("'" + n.Text + "'")
		case api.NodeComment:
			b.WriteString("!" + n.Text + "!")
		default:
			b.WriteString([...]string{"", "svg:", "math:"}[n.Space] + n.Name + shortAttrs(n.Attrs) + "(" + short(n.Kids) + ")")
		}
	}
	return b.String()
}

func shortAttrs(l []api.Attr) string {
	if len(l) == 0 {
		return ""
	}
	var parts []string
	for _, a := range l {
		parts = append(parts, a.Name+"="+a.Value)
	}
	return "[" + strings.Join(parts, " ") + "]"
}

// reads: each text is read as the tree behind it, by the program and by the second reading.
func reads(t *testing.T, rows ...[2]string) {
	t.Helper()
	for _, x := range rows {
		l, e := Fragment(x[0])
		if got := short(l); got != x[1] || e != api.OK {
			t.Errorf("Fragment(%q): %s (%d), not %s", x[0], got, e, x[1])
		}
		if l, e := saidFragment(x[0]); short(l) != x[1] || e != api.OK {
			t.Errorf("the second reading has %q as %s (%d), not %s", x[0], short(l), e, x[1])
		}
		checkWhole(t, x[0], l)
	}
}

// brief: the beginning and the end of a long text.
func brief(s string) string {
	if len(s) < 400 {
		return s
	}
	return s[:150] + " .. " + s[len(s)-150:]
}
