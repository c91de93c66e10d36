package build

import (
	"math/rand/v2"
	"slices"
	"strings"
	"testing"

	"marginalia/api"
	"marginalia/charref"
)

// P8.2: a text without < is a text, decoded.
func TestPlainText(t *testing.T) {
	check := func(s string) {
		t.Helper()
		l, e := Fragment(s)
		want := []api.Node{{Kind: api.NodeText, Text: charref.Decode(s, false)}}
		if e != api.OK || !Same(l, want) {
			t.Errorf("Fragment(%q): %s (%d)", s, short(l), e)
		}
	}
	for _, s := range []string{"a", " ", "\n", "\nx", "a>b", "&lt;b&gt;", "&amp;lt;", "&ltx", "&", "&#0;", "&#x3c;b>", "--> ]]>", "\x00", "\xff\xfe", "a\r\nb", "\"'=/"} {
		check(s)
	}
	r := rand.New(rand.NewPCG(8, 3))
	pieces := []string{"a", "&", "lt;", "#60;", "#x3C", ";", ">", "/", "!", "\n", " ", "&amp;", "&lt;", "\u00e4", "\x80", "copy"}
	for range 5000 {
		s := "x"
		for range r.IntN(20) {
			s += pieces[r.IntN(len(pieces))]
		}
		check(s)
	}
	if l, e := Fragment(""); len(l) != 0 || e != api.OK {
		t.Errorf("nothing: %s (%d)", short(l), e)
	}
}

// nest: well nested tags of div and span, as a text and as the tree that they are.
func nest(r *rand.Rand, deep int) (string, []api.Node) {
	var s strings.Builder
	var l []api.Node
	for range r.IntN(5) {
		switch name := []string{"div", "span", ""}[r.IntN(3)]; {
		case name != "" && deep > 0:
			text, kids := nest(r, deep-1)
			n := element(name, kids...)
			attr := ""
			if r.IntN(3) == 0 {
				n.Attrs = []api.Attr{{Name: "k", Value: "v<>&'"}, {Name: "l", Value: ""}}
				attr = ` k="v<>&amp;'" l=""`
			}
			s.WriteString("<" + name + attr + ">" + text + "</" + name + ">")
			l = append(l, n)
		case len(l) == 0 || l[len(l)-1].Kind == api.NodeElement:
			s.WriteString(" x&lt;\n")
			l = append(l, text(" x<\n"))
		case l[len(l)-1].Kind == api.NodeText:
			s.WriteString("<!-- <div> -->")
			l = append(l, comment(" <div> "))
		}
	}
	return s.String(), l
}

// P8.2: well nested tags of div and span come out as they are written.
func TestWellNested(t *testing.T) {
	r := rand.New(rand.NewPCG(8, 4))
	tried := 0
	for range 5000 {
		s, want := nest(r, 12)
		if len(s) > api.MaxInput || Many(want) >= api.MaxNodes {
			continue
		}
		tried++
		l, e := Fragment(s)
		if e != api.OK || !Same(l, want) {
			t.Fatalf("Fragment(%q): %s (%d), not %s", s, short(l), e, short(want))
		}
	}
	if tried < 1000 {
		t.Errorf("%d tried", tried)
	}
	all := strings.Repeat("<div><span>", 30) + "x" + strings.Repeat("</span></div>", 30)
	if l, e := Fragment(all); e != api.OK || Deep(l) != 60 || Many(l) != 61 {
		t.Errorf("60 deep: %s (%d)", short(l), e)
	}
}

// P8.5: tags in great letters; what is no tag, and what a value says, stays as it is written.
func TestGreatLetters(t *testing.T) {
	reads(t,
		[2]string{"<B KEY=Value>X<P>Y</B>Z", "b[key=Value]('X')p(b[key=Value]('Y')'Z')"},
		[2]string{"<TABLE>x<TR><TD>y</TABLE>Z", "'x'table(tbody(tr(td('y'))))'Z'"},
		[2]string{"<SVG VIEWBOX=A><ForeignObject><P>x</P></FOREIGNOBJECT><G/></sVG>y", "svg:svg[viewbox=A](svg:foreignobject(p('x'))svg:g())'y'"},
		[2]string{"<MATH><MI><B>x", "math:math(math:mi(b('x')))"},
		[2]string{"<SVG><FONT COLOR=Red>x", "svg:svg()font[color=Red]('x')"},
		[2]string{"<TABLE><INPUT TYPE=HIDDEN><INPUT TYPE=TEXT>", "input[type=TEXT]()table(input[type=HIDDEN]())"},
		[2]string{"<IMAGE>a</BR>b</P>c<PRE>\nd<LI>e<Li>f", "img()'a'br()'b'p()'c'pre('d'li('e')li('f'))"},
		[2]string{"<HTML><BODY>a<X-Y>b</x-y>c</BODY>", "'a'x-y('b')'c'"},
		[2]string{"<A>1<a>2<NoBr>3<nobR>4", "a('1')a('2'nobr('3')nobr('4'))"},
	)
}

// grown: all lists of attributes and of nodes in a tree.
func grown(l []api.Node, attrs *[][]api.Attr, kids *[][]api.Node) {
	*kids = append(*kids, l)
	for _, n := range l {
		*attrs = append(*attrs, n.Attrs)
		grown(n.Kids, attrs, kids)
	}
}

// R4: no two lists of an answer share memory, their spare room neither: what is written into one changes no other.
func TestNewMemory(t *testing.T) {
	// Made anew and copied: each with attributes of its own.
	s := "<p><b k=v l=w><i m=x>1</p>2<p>3<div>4</b>5</i><table><td>6<svg n=y>7"
	l, _ := Fragment(s)
	before := short(l)
	var attrs [][]api.Attr
	var kids [][]api.Node
	grown(l, &attrs, &kids)
	for i, a := range attrs {
		kept := append([]api.Attr(nil), a...)
		full := a[:cap(a)]
		old := slices.Clone(full)
		for j := range full {
			full[j] = api.Attr{Name: "written", Value: "over"}
		}
		for k, other := range attrs {
			for _, x := range other {
				if k != i && x.Name == "written" {
					t.Errorf("the attributes %d and %d share memory", i, k)
				}
			}
		}
		copy(full, old)
		if !slices.Equal(a, kept) {
			t.Errorf("the attributes %d are not as they were", i)
		}
	}
	for i, list := range kids {
		full := list[:cap(list)]
		old := slices.Clone(full)
		for j := range full {
			full[j] = text("written")
		}
		for k, other := range kids {
			for _, x := range other {
				if k != i && x.Text == "written" {
					t.Errorf("the lists %d and %d share memory", i, k)
				}
			}
		}
		copy(full, old)
	}
	if short(l) != before {
		t.Error("the tree is not as it was")
	}
	// R5: asked again, another tree that is alike.
	again, _ := Fragment(s)
	l[0].Name, l[0].Kids[0].Attrs[0].Value = "changed", "changed"
	if short(again) != before {
		t.Error("two answers share memory")
	}
	if third, _ := Fragment(s); short(third) != before {
		t.Error("asked again it is another one")
	}
}
