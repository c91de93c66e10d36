package policy

import (
	"fmt"
	"slices"
	"strings"
	"testing"

	"marginalia/api"
)

// roomy: a list with room behind its end, where something lies that may not be.
func roomy(words string) (l, whole []string) {
	whole = append(list(words), "STRANGER", "javascript", "on")
	return whole[:len(whole)-3], slices.Clip(whole)
}

// R4: what is handed in stays as it was, and what lies in the room behind it is neither changed nor read.
func TestHandedIn(t *testing.T) {
	attrs, allAttrs := roomy("href title")
	links, allLinks := roomy("href src")
	schemes, allSchemes := roomy("https")
	drops, allDrops := roomy("form")
	rooms := [][]string{allAttrs, allLinks, allSchemes, allDrops}
	allRules := []api.Rule{{Name: "b"}, {Name: "a", Attrs: attrs}, {Name: "script", Attrs: list("on")}}
	p := api.Policy{Deep: 3, Rules: allRules[:2], Links: links, Schemes: schemes, Drops: drops}
	allKids := []api.Node{text("x"), element("b"), text("y"), text("z"), {}}
	allOwn := []api.Attr{{Name: "href", Value: "x"}, {Name: "on"}}
	allNodes := []api.Node{{Kind: api.NodeElement, Name: "a", Attrs: allOwn[:1], Kids: allKids[:3]}, text("x"), text("y"), {}}
	state := func() string { return fmt.Sprintf("%q %v %v %v %v", rooms, allRules, allKids, allOwn, allNodes) }
	before := state()
	s, e := Print(p)
	if s != "deep 3\nelement b\nelement a href title\nlink href src\nscheme https\ndrop form\n" || e != api.OK || Check(p) != api.OK {
		t.Errorf("with room behind the lists: %q, %d", s, e)
	}
	if !Element(p, "b") || Element(p, "script") || !Attr(p, "a", api.Attr{Name: "title"}) || Attr(p, "a", api.Attr{Name: "on"}) || Attr(p, "a", api.Attr{Name: "href", Value: "javascript:x"}) {
		t.Error("what is let, with room behind the lists")
	}
	if !Allowed(p, allNodes[:2]) || Allowed(p, allNodes[:3]) {
		t.Error("what is allowed, with room behind the lists")
	}
	if state() != before {
		t.Errorf("what was handed in is now %s; it was %s", state(), before)
	}
}

// R4: no two lists of what is parsed share memory, nor do two answers: what is written into one, room and all, is seen in no other.
func TestParsedApart(t *testing.T) {
	const s = "deep 3\nelement b x y z\nelement a\nelement i q\nlink a b\nlink c\nscheme d\nscheme e f\ndrop g h i1 j k\nelement u w\ndrop l"
	p, _, _ := Parse(s)
	other, _, _ := Parse(s)
	want := show(other)
	lists := []*[]string{&p.Links, &p.Schemes, &p.Drops}
	for i := range p.Rules {
		lists = append(lists, &p.Rules[i].Attrs)
	}
	for i, l := range lists {
		kept := slices.Clone(*l)
		room := (*l)[:cap(*l)]
		for j := range room {
			room[j] = "written"
		}
		for k, other := range lists {
			if k != i && slices.Contains((*other)[:cap(*other)], "written") {
				t.Errorf("list %d changes with list %d", k, i)
			}
		}
		clear(room)
		copy(*l, kept)
	}
	full := p.Rules[:cap(p.Rules)]
	for i := range full {
		full[i] = api.Rule{Name: "written"}
	}
	if got := show(other); got != want {
		t.Errorf("another answer is now %s", got)
	}
	if again, _, _ := Parse(s); show(again) != want {
		t.Errorf("the next answer is %s", show(again))
	}
}

// R3: beside an error there is nothing, also where much was read ahead of it.
func TestNothingBesideErrors(t *testing.T) {
	const much = "deep 3\nelement b x\nlink x\nscheme https\ndrop form\n"
	for _, x := range []struct {
		s    string
		line int
		want api.Errno
	}{{much + "what", 6, api.ErrText}, {much + "deep 61", 0, api.ErrArg}, {much + "element script", 0, api.ErrArg}, {much + "drop " + strings.Join(wide(20), " "), 0, api.ErrLarge}, {much + "#" + strings.Repeat("x", 2000), 0, api.ErrLarge}} {
		p, n, e := Parse(x.s)
		if n != x.line || e != x.want || p.Deep != 0 || len(p.Rules)+len(p.Links)+len(p.Schemes)+len(p.Drops) != 0 {
			t.Errorf("Parse(%q): %s, %d, %d", x.s, show(p), n, e)
		}
	}
	if p, n, e := Parse(much); e != api.OK || n != 0 || p.Deep != 3 {
		t.Errorf("Parse: %s, %d, %d", show(p), n, e)
	}
}

// R5: asked again, and after others, each call answers as before.
func TestAnsweredAlike(t *testing.T) {
	texts := []string{"deep 3\nelement b", "what", "deep 3\nelement script", "", "deep 1\nlink x\n\nwhat"}
	var first []string
	for round := range 3 {
		for i, s := range texts {
			p, n, e := Parse(s)
			told := fmt.Sprint(show(p), n, e, Element(p, "b"), Allowed(p, nested(2)))
			if round == 0 {
				first = append(first, told)
			} else if told != first[i] {
				t.Errorf("%q: %s, and then %s", s, first[i], told)
			}
		}
	}
}
