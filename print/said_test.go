package print

import (
	"strings"

	"marginalia/api"
)

// The names that the chapters list.
const (
	rawNames  = "iframe noembed noframes script style xmp"
	voidNames = "area base br col embed hr img input link meta param source track wbr"
)

// A second reading of the chapter: sign by sign over the whole text, and of a node with the one around it.

func listed(words, name string) bool {
	for _, w := range strings.Fields(words) {
		if w == name {
			return true
		}
	}
	return false
}

func saidEscape(s string, attr bool) string {
	// The references' own & must not be met again.
	s = strings.Join(strings.Split(s, "&"), "&amp;")
	s = strings.Join(strings.Split(s, "\xC2\xA0"), "&nbsp;")
	s = strings.Join(strings.Split(s, "<"), "&lt;")
	s = strings.Join(strings.Split(s, ">"), "&gt;")
	if attr {
		s = strings.Join(strings.Split(s, "\""), "&quot;")
	}
	return s
}

// saidNode: a node as it is written, with the one that it is right within; nil: within nothing.
func saidNode(n api.Node, around *api.Node) string {
	if n.Kind == 3 {
		return "<!--" + n.Text + "-->"
	}
	if n.Kind == 2 {
		if around != nil && around.Space == 0 && listed(rawNames+" plaintext", around.Name) {
			return n.Text
		}
		return saidEscape(n.Text, false)
	}
	if n.Kind != 1 {
		return ""
	}
	s := "<" + n.Name
	for _, a := range n.Attrs {
		s += " " + a.Name + "=\"" + saidEscape(a.Value, true) + "\""
	}
	s += ">"
	if n.Space == 0 && listed(voidNames, n.Name) {
		return s
	}
	for _, kid := range n.Kids {
		s += saidNode(kid, &n)
	}
	return s + "</" + n.Name + ">"
}

func saidFragment(l []api.Node) string {
	s := ""
	for _, n := range l {
		s += saidNode(n, nil)
	}
	return s
}
