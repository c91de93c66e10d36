package build

import (
	"strings"

	"marginalia/api"
	"marginalia/kind"
	"marginalia/token"
)

// A second reading of the chapter: nodes that know one another instead of numbers, sentence by sentence, an error thrown where it is said.

type saidNode struct {
	kind   api.NodeKind
	space  api.Space
	name   string
	attrs  []api.Attr
	text   string
	parent *saidNode
	kids   []*saidNode
}

// saidMark is an entry of the marks; without a node it is a marker.
type saidMark struct {
	node  *saidNode
	name  string
	attrs []api.Attr
}

type said struct {
	root     *saidNode
	open     []*saidNode
	marks    []*saidMark
	rules    string
	mode     api.Mode
	modeName string
	foster   bool
	feed     bool
	nodes    int
}

// saidFragment: what Fragment is to answer.
func saidFragment(s string) (l []api.Node, e api.Errno) {
	if len(s) > 4096 {
		return nil, 4
	}
	defer func() {
		if x := recover(); x != nil {
			l, e = nil, x.(api.Errno)
		}
	}()
	root := &saidNode{kind: api.NodeRoot, name: "html"}
	x := &said{root: root, open: []*saidNode{root}, rules: "Body", nodes: 1}
	for at := 0; ; {
		var t api.Token
		t, at = token.Next(s, at, x.mode, x.modeName, x.current().space != 0)
		if t.Kind == api.TokenEnd {
			return root.value().Kids, 0
		}
		x.token(t)
	}
}

func (n *saidNode) value() api.Node {
	v := api.Node{Kind: n.kind, Space: n.space, Name: n.name, Attrs: n.attrs, Text: n.text}
	for _, k := range n.kids {
		v.Kids = append(v.Kids, k.value())
	}
	return v
}

// among: is the name one of the words?
func among(words, name string) bool {
	for _, w := range strings.Fields(words) {
		if w == name {
			return true
		}
	}
	return false
}

// is: is it of SpaceHtml and of one of the words?
func (n *saidNode) is(words string) bool { return n.space == 0 && among(words, n.name) }

func (n *saidNode) point() bool {
	return n.space == 1 && among("foreignobject desc title", n.name) || n.space == 2 && among("mi mo mn ms mtext", n.name)
}

func (n *saidNode) special() bool {
	return n.space == 0 && kind.Is(api.SetSpecial, n.name) || n.point()
}

const saidAll = "applet caption html marquee object table td template th"

func (x *said) has(words, ends string, points bool) bool {
	for i := len(x.open) - 1; ; i-- {
		if n := x.open[i]; n.is(words) {
			return true
		} else if n.is(ends) || points && n.point() {
			return false
		}
	}
}

func (x *said) inAll(words string) bool    { return x.has(words, saidAll, true) }
func (x *said) inList(words string) bool   { return x.has(words, saidAll+" ol ul", true) }
func (x *said) inButton(words string) bool { return x.has(words, saidAll+" button", true) }
func (x *said) inTable(words string) bool  { return x.has(words, "html table template", false) }

func (x *said) current() *saidNode { return x.open[len(x.open)-1] }

func (x *said) pop() {
	if len(x.open) > 1 {
		x.open = x.open[:len(x.open)-1]
	}
}

func (x *said) isOpen(words string) bool {
	for _, n := range x.open {
		if n.is(words) {
			return true
		}
	}
	return false
}

func (x *said) popUpTo(words string) {
	if !x.isOpen(words) {
		return
	}
	for !x.current().is(words) {
		x.pop()
	}
	x.pop()
}

func (x *said) implied(but string) {
	for n := x.current(); n.space == 0 && kind.Is(api.SetImplied, n.name) && n.name != but; n = x.current() {
		x.pop()
	}
}

func (x *said) closeP() {
	if x.inButton("p") {
		x.implied("p")
		x.popUpTo("p")
	}
}

func (x *said) clearTo(words string) {
	for !x.current().is(words) && x.current() != x.root {
		x.pop()
	}
}

func (x *said) reset() {
	for i := len(x.open) - 1; i >= 0; i-- {
		n := x.open[i]
		for _, p := range [][2]string{{"td th", "Cell"}, {"tr", "Row"}, {"tbody tfoot thead", "Rows"}, {"caption", "Caption"}, {"colgroup", "Group"}, {"table", "Table"}, {"html", "Body"}} {
			if n.is(p[0]) {
				x.rules = p[1]
				return
			}
		}
	}
}

func (x *said) node(n saidNode) *saidNode {
	if x.nodes == 2000 {
		panic(api.ErrLarge)
	}
	x.nodes++
	return &n
}

func (n *saidNode) index() int {
	for i, k := range n.parent.kids {
		if k == n {
			return i
		}
	}
	panic("a kid that is none")
}

func (n *saidNode) takeOut() {
	if n.parent != nil {
		i := n.index()
		n.parent.kids = append(append([]*saidNode{}, n.parent.kids[:i]...), n.parent.kids[i+1:]...)
		n.parent = nil
	}
}

// place: the parent, and how many of its kids stand ahead of the place.
func (x *said) place(target *saidNode) (*saidNode, int) {
	if x.foster && target.is("table tbody tfoot thead tr") {
		for i := len(x.open) - 1; i >= 0; i-- {
			if n := x.open[i]; n.is("table") && n.parent != nil {
				return n.parent, n.index()
			} else if n.is("table") {
				return x.open[i-1], len(x.open[i-1].kids)
			}
		}
		return x.root, len(x.root.kids)
	}
	return target, len(target.kids)
}

func (n *saidNode) putAt(parent *saidNode, at int) {
	n.parent = parent
	kids := append([]*saidNode{}, parent.kids[:at]...)
	kids = append(kids, n)
	parent.kids = append(kids, parent.kids[at:]...)
}

func (x *said) text(s string) {
	parent, at := x.place(x.current())
	if at > 0 && parent.kids[at-1].kind == api.NodeText {
		parent.kids[at-1].text += s
		return
	}
	x.node(saidNode{kind: api.NodeText, text: s}).putAt(parent, at)
}

func (x *said) comment(s string) {
	n := x.node(saidNode{kind: api.NodeComment, text: s})
	n.putAt(x.place(x.current()))
}

func (x *said) element(space api.Space, name string, attrs []api.Attr) *saidNode {
	if len(x.open) > 60 {
		panic(api.ErrDeep)
	}
	n := x.node(saidNode{kind: api.NodeElement, space: space, name: name, attrs: attrs})
	n.putAt(x.place(x.current()))
	x.open = append(x.open, n)
	return n
}

func (x *said) bare(name string) { x.element(0, name, nil) }

func (x *said) insert(t api.Token) *saidNode { return x.element(0, t.Name, t.Attrs) }

func (x *said) insertPopped(t api.Token) {
	x.insert(t)
	x.pop()
}

func (x *said) renew() {
	from := len(x.marks)
	for from > 0 && x.marks[from-1].node != nil && !x.openHas(x.marks[from-1].node) {
		from--
	}
	for _, m := range x.marks[from:] {
		m.node = x.element(0, m.name, m.attrs)
	}
}

func (x *said) openHas(n *saidNode) bool { return x.openPlace(n) >= 0 }

func (x *said) openPlace(n *saidNode) int {
	for i, o := range x.open {
		if o == n {
			return i
		}
	}
	return -1
}

func (x *said) openWithout(n *saidNode) {
	if i := x.openPlace(n); i >= 0 {
		x.open = append(append([]*saidNode{}, x.open[:i]...), x.open[i+1:]...)
	}
}

func (x *said) markPlace(n *saidNode) int {
	for i, m := range x.marks {
		if m.node == n {
			return i
		}
	}
	return -1
}

func (x *said) markGoes(m *saidMark) {
	var left []*saidMark
	for _, o := range x.marks {
		if o != m {
			left = append(left, o)
		}
	}
	x.marks = left
}

// lastMark: the last entry of that name behind the last marker.
func (x *said) lastMark(name string) *saidMark {
	for i := len(x.marks) - 1; i >= 0 && x.marks[i].node != nil; i-- {
		if x.marks[i].name == name {
			return x.marks[i]
		}
	}
	return nil
}

func sameAttrs(a, b []api.Attr) bool {
	if len(a) != len(b) {
		return false
	}
	for _, p := range a {
		found := false
		for _, q := range b {
			found = found || p == q
		}
		if !found {
			return false
		}
	}
	return true
}

func (x *said) mark(n *saidNode) {
	var alike []*saidMark
	for i := len(x.marks) - 1; i >= 0 && x.marks[i].node != nil; i-- {
		if m := x.marks[i]; m.name == n.name && sameAttrs(m.attrs, n.attrs) {
			alike = append(alike, m)
		}
	}
	if len(alike) >= 3 {
		x.markGoes(alike[len(alike)-1])
	}
	x.marks = append(x.marks, &saidMark{node: n, name: n.name, attrs: n.attrs})
}

func (x *said) marker() { x.marks = append(x.marks, &saidMark{}) }

func (x *said) clearMarks() {
	for len(x.marks) > 0 {
		last := x.marks[len(x.marks)-1]
		x.marks = x.marks[:len(x.marks)-1]
		if last.node == nil {
			return
		}
	}
}

func (x *said) token(t api.Token) {
	if x.feed && t.Kind == api.TokenText && t.Text[0] == 10 {
		t.Text = t.Text[1:]
	}
	x.feed = false
	if t.Kind == api.TokenDoctype || t.Kind == api.TokenText && t.Text == "" {
		return
	}
	if x.mode == api.ModeRaw || x.mode == api.ModeRcdata {
		if t.Kind == api.TokenText {
			x.text(t.Text)
			return
		}
		x.pop()
		x.mode = api.ModeData
		return
	}
	if x.current().space != 0 && !(x.current().point() && (t.Kind == api.TokenText || t.Kind == api.TokenStart)) {
		x.foreign(t)
		return
	}
	x.byRules(t)
}

func (x *said) byRules(t api.Token) {
	map[string]func(api.Token){
		"Body": x.body, "Table": x.table, "Caption": x.caption, "Group": x.group, "Rows": x.rows, "Row": x.row, "Cell": x.cell,
	}[x.rules](t)
}

func start(t api.Token, words string) bool { return t.Kind == api.TokenStart && among(words, t.Name) }
func stop(t api.Token, words string) bool  { return t.Kind == api.TokenStop && among(words, t.Name) }

func (x *said) foreign(t api.Token) {
	fontBreaks := false
	for _, a := range t.Attrs {
		fontBreaks = fontBreaks || start(t, "font") && among("color face size", a.Name)
	}
	switch {
	case t.Kind == api.TokenText:
		x.text(t.Text)
	case t.Kind == api.TokenComment:
		x.comment(t.Text)
	case t.Kind == api.TokenStart && kind.Is(api.SetBreak, t.Name), fontBreaks, stop(t, "br p"):
		for !(x.current().space == 0 || x.current().point()) {
			x.pop()
		}
		x.byRules(t)
	case t.Kind == api.TokenStart:
		x.element(x.current().space, t.Name, t.Attrs)
		if t.Closed {
			x.pop()
		}
	default:
		for i := len(x.open) - 1; ; i-- {
			if x.open[i].space == 0 {
				x.byRules(t)
				return
			}
			if x.open[i].name == t.Name {
				x.open = x.open[:i]
				return
			}
		}
	}
}
