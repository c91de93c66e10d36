package clean

import (
	"fmt"
	"strings"
	"testing"

	"marginalia/api"
)

// roomy: a policy whose lists have room behind their ends, where something lies that would be let; told: all of that, room too.
func roomy() (p api.Policy, told func() string) {
	attrs := []string{"href", "title", "class"}
	rules := []api.Rule{{Name: "b"}, {Name: "a", Attrs: attrs[:2]}, {Name: "i"}}
	links, schemes, drops := []string{"href", "title"}, []string{"https", "http"}, []string{"form", "u"}
	p = api.Policy{Deep: 3, Rules: rules[:2], Links: links[:1], Schemes: schemes[:1], Drops: drops[:1]}
	told = func() string { return fmt.Sprintf("%q %v %q %q %q", attrs, rules, links, schemes, drops) }
	return p, told
}

// R4: what is handed in stays as it was, the policy with its lists and the bytes, the room behind them too; what lies there is not read.
func TestHandedIn(t *testing.T) {
	for _, x := range []row{
		ok("<b>x<form>y</form><u>z</u>", "<b>xz</b>"), ok("<A HREF=https:x TITLE=java:x CLASS=y>\r\n\x00\xFF<i>z", "<a href=\"https:x\" title=\"java:x\">\n\uFFFDz</a>"), ok("<a href=http:x>&lt", "<a>&lt;</a>"), same("<b>x</b>"), ok("\xEF\xBB\xBFx\r", "x\n"),
		no("&#13;", api.ErrRejected), no(times(61, "<div>"), api.ErrDeep), no(times(4097, "x"), api.ErrLarge), no(times(820, "&"), api.ErrLarge), ok("<!--x", ""), same("x"), same(""),
	} {
		p, told := roomy()
		before := told()
		room := []byte(x.s + "</b><b>room")
		got, e := Clean(p, room[:len(x.s)])
		if got != x.want || e != x.e {
			t.Errorf("Clean(%.40q): %q, %d", x.s, got, e)
		}
		Stable(p, x.s)
		Stable(p, got)
		if told() != before || string(room) != x.s+"</b><b>room" {
			t.Errorf("behind Clean(%.40q): %s, %q", x.s, told(), room)
		}
		// What is told does not hang on what was handed in any more.
		kept := strings.Clone(got)
		for i := range room {
			room[i] = '!'
		}
		p.Rules[0].Name, p.Rules[1].Attrs[0], p.Links[0], p.Schemes[0], p.Drops[0] = "q", "q", "q", "q", "q"
		if got != kept {
			t.Errorf("what was told is now %q", got)
		}
	}
}

// R5: asked again, and after others, the answer is as before; R3: beside an error nothing is told.
func TestAnsweredAlike(t *testing.T) {
	texts := []string{"", "x", "<b>1<p>2</b>3", "<p><button><p>x", "<b>&#13;", times(61, "<div>"), times(4097, "x"), times(820, "&"), "<a href=javascript:x title=y>z", "<script>"}
	policies := []api.Policy{{}, usual(t), wide(t), bare()}
	var first []string
	for round := range 3 {
		at := 0
		for _, p := range policies {
			for _, s := range texts {
				got, e := Clean(p, []byte(s))
				if e != api.OK && got != "" {
					t.Errorf("beside %d: %q", e, got)
				}
				told := fmt.Sprintf("%q %d %v %v", got, e, Stable(p, s), Stable(p, got))
				if round == 0 {
					first = append(first, told)
				} else if first[at] != told {
					t.Errorf("%s, and then %s", first[at], told)
				}
				at++
			}
		}
	}
}

// R1: texts of any size end; what is very long is told as such.
func TestEnds(t *testing.T) {
	p := wide(t)
	for _, s := range []string{"x", "<", "&", "<b>", "</p>", "<table>", "\xFF", "\r", "\x00", "<b><p>", "<a x=y ", "<!--", "&#1"} {
		long := times(200000, s)
		if got, e := Clean(p, []byte(long)); got != "" || e != api.ErrLarge {
			t.Errorf("many %q: %q, %d", s, got, e)
		}
		if Stable(p, long) {
			t.Errorf("many %q are stable", s)
		}
		held(t, p, times(api.MaxInput/len(s), s))
	}
	// Many attributes that are made anew often.
	decked := "<p><a"
	for i := range 500 {
		decked += " " + string(rune('a'+i%26)) + string(rune('a'+i/26))
	}
	held(t, p, decked+">"+times(600, "<p>x"))
	held(t, p, decked+" title>"+times(40, "<p>x"))
}
