package clean

import (
	"math/rand/v2"
	"strings"
	"testing"

	"marginalia/api"
	"marginalia/build"
	"marginalia/policy"
	"marginalia/print"
)

func pick(r *rand.Rand, l ...string) string { return l[r.IntN(len(l))] }

// shortPieces: what is put together in all ways, up to three.
func shortPieces() []string {
	return []string{"x", "&", "\n", "\r", "\x00", "\xFF", "\xEF\xBB\xBF", "&#13;", "<b>", "</b>", "<p>", "</p>", "<i>", "<button>", "<pre>", "<a href=javascript:x title=y>", "</a>", "<table>", "<td>", "<script>", "</script>", "<svg>", "<!--x-->"}
}

// P13.1 to P13.4: all texts of up to three pieces, by policies that let more and less.
func TestAllShort(t *testing.T) {
	policies := []api.Policy{usual(t), wide(t)}
	check := func(s string) {
		for _, p := range policies {
			held(t, p, s)
		}
	}
	check("")
	for _, a := range shortPieces() {
		check(a)
		for _, b := range shortPieces() {
			check(a + b)
			for _, c := range shortPieces() {
				check(a + b + c)
			}
		}
	}
}

// pieces: many of what is sent in.
func pieces() []string {
	return append(shortPieces(),
		"</button>", "</table>", "y", " ", "<", ">", "\"", "'", "\u00A0", "\u20AC", "&lt;", "&amp", "&#xFEFF;", "&#0;", "&#10;", "\r\n", "</", "<!", "<b", "=x", "\xE2\x82", "]]>", "<![CDATA[x]]>", "<?x>", "<!doctype>", "</br>", "</x>", "</>",
		"<B CLASS='x'>", "<b class=\"&#13;\">", "<b onclick=x>", "<u>", "</u>", "</i>", "<em>", "<nobr>", "</nobr>", "<font color=x>", "<a href=https:x>", "<a href=' java&Tab;script:x'>", "<div title=x>", "</div>", "<span>", "</span>", "<h1>", "<h2>", "</h1>", "<ul>", "<li>", "</li>", "</ul>", "<dl><dd>", "<dt>", "</dl>",
		"<object>", "</object>", "<marquee>", "<form>", "</form>", "<img src=x alt='\"'>", "<image src=javascript:x>", "<br>", "<hr>", "<input type=hidden>", "<select>", "<option>", "<ruby>", "<rt>", "<rp>", "</ruby>", "<keygen>", "<listing>", "</pre>", "<x-y>", "</x-y>", "<blockquote>", "</blockquote>",
		"<tr>", "<th>", "</td>", "</tr>", "<tbody>", "<caption>", "</caption>", "<col>", "<colgroup>", "<style>", "</style>", "<xmp>", "</xmp>", "<textarea>", "</textarea>", "<title>", "</title>", "<noscript>", "<template>", "<math>", "<mi>", "</math>", "</svg>", "<desc>", "<g/>", "<svg><a>")
}

// some: the wide policy with some of its rules, and another depth.
func some(t *testing.T, r *rand.Rand) api.Policy {
	p := wide(t)
	if r.IntN(3) > 0 {
		r.Shuffle(len(p.Rules), func(i, j int) { p.Rules[i], p.Rules[j] = p.Rules[j], p.Rules[i] })
		p.Rules = p.Rules[:r.IntN(len(p.Rules)+1)]
	}
	if r.IntN(3) > 0 {
		p.Deep = 1 + r.IntN(6)
	}
	return p
}

// P13.1 to P13.4: many texts of pieces, by many policies.
func TestMany(t *testing.T) {
	r := rand.New(rand.NewPCG(13, 1))
	all := pieces()
	told := map[api.Errno]int{}
	changed := 0
	for range 12000 {
		var s strings.Builder
		for range 1 + r.IntN(24) {
			s.WriteString(pick(r, all...))
		}
		got, e := held(t, some(t, r), s.String())
		told[e]++
		if e == api.OK && got != s.String() && len(got) > 20 {
			changed++
		}
	}
	if told[api.OK] < 4000 || told[api.ErrRejected] < 1000 || changed < 2000 {
		t.Errorf("told: %v; %d long ones were changed", told, changed)
	}
}

// P13.1 to P13.4: long texts, at which the limits are met.
func TestManyLong(t *testing.T) {
	r := rand.New(rand.NewPCG(13, 2))
	all := pieces()
	told := map[api.Errno]int{}
	for range 500 {
		var few []string
		for range 2 + r.IntN(6) {
			few = append(few, pick(r, all...))
		}
		var s strings.Builder
		for size := r.IntN(4200); s.Len() < size; {
			s.WriteString(pick(r, few...))
		}
		_, e := held(t, some(t, r), s.String())
		told[e]++
	}
	if told[api.OK] < 50 || told[api.ErrLarge] < 15 || told[api.ErrDeep] < 30 || told[api.ErrRejected] < 10 {
		t.Errorf("told: %v", told)
	}
}

// P13.1 to P13.4: many texts of any bytes, and of those that HTML is made of.
func TestManyBytes(t *testing.T) {
	r := rand.New(rand.NewPCG(13, 3))
	const signs = "<<<<>>>>///&&&;;;==!!--#\"'bbppaaii xyz\n\r\x00\xC2\xA0\xEF\xBB\xBF\xFF"
	for i := range 8000 {
		b := make([]byte, r.IntN(60))
		for at := range b {
			if i%4 == 0 {
				b[at] = byte(r.IntN(256))
			} else {
				b[at] = signs[r.IntN(len(signs))]
			}
		}
		held(t, some(t, r), string(b))
	}
	p := usual(t)
	for a := range 256 {
		held(t, p, string([]byte{byte(a)}))
		held(t, p, "<b>x"+string([]byte{byte(a)})+"</b>")
		held(t, p, "<a title=\""+string([]byte{byte(a)})+"\">x</a>")
		held(t, p, "<a"+string([]byte{byte(a)})+"title=\"x\">y</a>")
	}
}

// allowedTree: a list that a policy allows, so many elements deep at most.
func allowedTree(r *rand.Rand, p api.Policy, deep int) []api.Node {
	var l []api.Node
	for range r.IntN(4) {
		if r.IntN(2) == 0 && (len(l) == 0 || l[len(l)-1].Kind != api.NodeText) {
			l = append(l, api.Node{Kind: api.NodeText, Text: pick(r, "x", " ", "<b>", "&amp;", "\n", "\r", "\u00A0", "\"", "\uFEFF", "\uFFFD")})
			continue
		}
		if deep == 0 || len(p.Rules) == 0 {
			continue
		}
		rule := p.Rules[r.IntN(len(p.Rules))]
		n := api.Node{Kind: api.NodeElement, Name: rule.Name, Kids: allowedTree(r, p, deep-1)}
		for _, name := range rule.Attrs {
			if r.IntN(2) == 0 {
				n.Attrs = append(n.Attrs, api.Attr{Name: name, Value: pick(r, "", "x", "https:x", "\"<&>", "\u00A0", "/a:b", "\r")})
			}
		}
		l = append(l, n)
	}
	return l
}

// P13.3: many trees that are allowed: those that are read again as they are written are told so, and are stable; of the others none is.
func TestManyAllowed(t *testing.T) {
	r := rand.New(rand.NewPCG(13, 4))
	again, not := 0, 0
	for range 6000 {
		p := some(t, r)
		l := allowedTree(r, p, min(p.Deep, 4))
		if !policy.Allowed(p, l) {
			t.Fatalf("%s is not allowed by %+v", show(l), p)
		}
		s := print.Fragment(l)
		got, e := held(t, p, s)
		read, wrong := saidRead(s)
		if is := wrong == api.OK && show(read) == show(l); !is {
			not++
		} else if again++; got != s || e != api.OK || !Stable(p, s) {
			t.Fatalf("%q is read as it was written, and cleaned as %q, %d by %+v", s, got, e, p)
		}
	}
	if again < 2000 || not < 500 {
		t.Errorf("%d are read as they were written, %d are not", again, not)
	}
}

// P13.2: what one policy told is cleaned by another one, and by the first one once more.
func TestManyPolicies(t *testing.T) {
	r := rand.New(rand.NewPCG(13, 5))
	all := pieces()
	for range 1500 {
		var b strings.Builder
		for range 1 + r.IntN(20) {
			b.WriteString(pick(r, all...))
		}
		s := b.String()
		for range 4 {
			if got, e := held(t, some(t, r), s); e == api.OK {
				s = got
			}
		}
	}
}

// P13.2: what is told is no deeper than the policy has it, and no greater than what may come.
func TestToldWithinLimits(t *testing.T) {
	for _, deep := range []int{1, 2, 30, 59, 60} {
		p := wide(t)
		p.Deep = deep
		for _, n := range []int{1, deep, min(deep+1, 60), 60} {
			s, e := held(t, p, times(n, "<div>")+"x")
			l, _ := build.Fragment(s)
			if e != api.OK || build.Deep(l) != min(n, deep) || len(s) > api.MaxInput {
				t.Errorf("%d elements, %d deep: %q, %d", n, deep, s, e)
			}
		}
	}
}
