package clean

import (
	"strings"
	"testing"

	"marginalia/api"
)

// P13.4: elements whose text is read as it stands, wherever they stand and however they are written.
func TestRawElements(t *testing.T) {
	p := wide(t)
	for _, name := range words("iframe noembed noframes script style xmp plaintext") {
		ends := "y"
		if name == "plaintext" {
			ends = ""
		}
		cleans(t, p,
			ok("<"+name+">x</"+name+">"+ends, ends), ok("<"+strings.ToUpper(name)+" title=x>x</"+name+" >"+ends, ends), ok("<"+name+"/>x</"+name+">"+ends, ends), ok("<"+name, ""), ok("<"+name+">x", ""), ok("<"+name+"><b>x</"+name+">"+ends, ends), ok("<"+name[:2]+"\x00"+name[2:]+">x</"+name+">"+ends, ends),
			ok("<b><"+name+">x</"+name+"></b>", "<b></b>"), ok("<table><td><"+name+">x</"+name+"></table>", "<table></table>"), ok("&lt;"+name+">x", "&lt;"+name+"&gt;x"), same("&lt;"+name+"&gt;x&lt;/"+name+"&gt;"), ok("<"+name+"x>y", "y"), ok("<"+name+"><!--</"+name+">"+ends, ends))
		// Within other languages it is no such element, and goes with them.
		cleans(t, p, ok("<svg><"+name+">x</svg>", ""), ok("<math><mi><"+name+">x</"+name+"></math>", ""), ok("<svg><"+name+"><b>x</b></"+name+">", "<b>x</b>"))
		// What would be such an element, were it not taken apart.
		cleans(t, p, ok("<<"+name+">x</"+name+">script>y", map[bool]string{true: "&lt;script&gt;y", false: "&lt;"}[name != "plaintext"]), ok("<b title='<"+name+">'>x", "<b>x</b>"), ok("<a title='<"+name+">'>x", "<a title=\"&lt;"+name+"&gt;\">x</a>"), ok("<a title='</a><"+name+">'>x", "<a title=\"&lt;/a&gt;&lt;"+name+"&gt;\">x</a>"))
	}
	cleans(t, p,
		ok("<textarea><script>x</textarea>", "&lt;script&gt;x"), ok("<title><img onerror=x></title>", "&lt;img onerror=x&gt;"), ok("<noscript><script>x</noscript>", ""), ok("<noscript><b>x</b></noscript>y", "<b>x</b>y"), ok("<template><script>x</script>y</template>", "y"), ok("<xmp><script>x</xmp>y", "y"), ok("<scr<script>ipt>x", "ipt&gt;x"), ok("<scr<b>ipt>x", "ipt&gt;x"), same("<listing>&lt;img onerror=x&gt;</listing>"), same("<pre>&lt;script&gt;</pre>"))
}

// P13.4: elements of other spaces, what is within them, and what breaks out of them; comments and what is read as such.
func TestOtherSpaces(t *testing.T) {
	cleans(t, wide(t),
		ok("<svg><a href=x>y</a></svg>z", "z"), ok("<svg><b>x", "<b>x</b>"), ok("<math><a>x</a></math>y", "y"), ok("<math><mi><b>x</b></mi></math>y", "y"), ok("<svg><desc><b>x</b></desc></svg>y", "y"), ok("<svg/>x", "x"), ok("<svg><font color=x>y", "<font color=\"x\">y</font>"), ok("<svg><font>y", ""), ok("<svg><![CDATA[<b>x]]></svg>y", "y"), ok("<![CDATA[x]]>y", "y"), ok("<b><svg><p>x", "<b><p>x</p></b>"), ok("<svg></p>x", "<p></p>x"), ok("<table><svg><b>x</table>", "<b>x</b><table></table>"),
		ok("x<!--y-->z", "xz"), ok("x<!--y--!>z", "xz"), ok("x<!--y", "x"), ok("x<!-->z", "xz"), ok("<?xml x?>y", "y"), ok("</ x>y", "y"), ok("<!x>y", "y"), ok("<!--<b>--><b>x", "<b>x</b>"), ok("<b><!--x--></b>", "<b></b>"), same("&lt;!--x--&gt;"), same("--&gt;x"))
	// The tricks of old: what is within one language is read in another one when it is read again.
	for _, s := range []string{
		`<svg></p><style><a id="</style><img src=1 onerror=alert(1)>">`, `<svg><style><img src=1 onerror=x></style>`, `<math><mtext><table><mglyph><style><!--</style><img title="--&gt;&lt;img src=1 onerror=alert(1)&gt;">`, `<form><math><mtext></form><form><mglyph><style></math><img src onerror=alert(1)>`,
		`<noscript><p title="</noscript><img src=x onerror=alert(1)>">`, `<svg><title><a title="</title><img onerror=x>">`, `<svg><desc><noembed><a title="</noembed><img onerror=x>">`, `<math><annotation-xml encoding=text/html><xmp>&lt;/xmp><img onerror=x>`, `<table><svg><foreignobject><p><table><a title="</p><script>">`,
		`<listing>&lt;img src=x onerror=x&gt;</listing>`, `<a title="&quot;><script>">`, "<img alt=\"``onerror=x\">", `<img alt="x&quot; onerror=&quot;y">`, `<select><template><style><!--</style><a rel="--></style></template></select><img id=x onerror=y>">`, `<svg><p><style><a title="</style><script>x</script>">`, `<b title="--><script>">`, `<![CDATA[<script>x</script>]]>`, `<plaintext><b></plaintext><script>`,
	} {
		for _, p := range []api.Policy{wide(t), usual(t), bare()} {
			held(t, p, s)
			held(t, p, "<b>"+s+"</b>")
			held(t, p, "<table><td>"+s)
		}
	}
}

// P13.4: attributes that begin with on, and others that no policy lets.
func TestOnAttributes(t *testing.T) {
	cleans(t, wide(t),
		ok("<b onclick=x>y", "<b>y</b>"), ok("<b ONCLICK=x>y", "<b>y</b>"), ok("<b\nonclick\n=\nx>y", "<b>y</b>"), ok("<b/onclick=x/>y", "<b>y</b>"), ok("<b on>y", "<b>y</b>"), ok("<b o\x00nclick=x>y", "<b>y</b>"), ok("<img src=x onerror=y>", `<img src="x">`), ok("<img src='x'onerror=y>", `<img src="x">`), ok("<img src=x' onerror=y>", `<img src="x'">`), ok("<img alt=\"\"onerror=x\"\">", `<img alt="">`), ok("<img alt=x/onerror=y>", `<img alt="x/onerror=y">`), ok("<a title='x' =onclick=y>z", `<a title="x">z</a>`), ok("<a \"onclick=x title=y>z", `<a title="y">z</a>`),
		ok("<p style=x>y", "<p>y</p>"), ok("<div srcdoc=x title=y>z", `<div title="y">z</div>`), ok("<a href=x onclick=y title=z onfocus=w>v", `<a href="x" title="z">v</a>`), same(`<a title="onclick=x">y</a>`), ok("<a title=' onclick=x'>y", `<a title=" onclick=x">y</a>`), ok("<p align=x\xFFonclick=y>z", "<p align=\"x\uFFFDonclick=y\">z</p>"), ok("<svg onload=x>y", ""), ok("<body onload=x>y", "y"), ok("<table><tr onclick=x></table>", "<table></table>"))
}

// P13.4: links of the scheme javascript, in all their writings, and of others that the policy does not have.
func TestScriptLinks(t *testing.T) {
	p := wide(t)
	for _, link := range []string{
		"javascript:x", "JavaScript:x", "JAVASCRIPT:x", " javascript:x", "\tjavascript:x", "\n\n javascript:x", "java\tscript:x", "java\nscript:x", "java\r\nscript:x", "j\ta\nv\ra\ts\nc\rr\ti\np\rt\t:x", "javascript\t:x", "\x01javascript:x", "\x1F \x0Cjavascript:x", "\x00javascript:x", "java\x00script:x", "javascript:", "javascript:javascript:x", "javascript:https:x", "javascript://x",
		"&#106;avascript:x", "&#x6A;avascript:x", "&#106avascript:x", "&#0000106avascript:x", "javascript&#58;x", "javascript&colon;x", "java&Tab;script:x", "java&NewLine;script:x", "&#1;javascript:x", "&#32;javascript:x", "java&#9script:x", "java&#10;script:x", "&Tab;&NewLine;javascript&colon;x",
		"data:text/html,x", "vbscript:x", "http:x", "HTTP:x", "https+x:y", "file:x", "view-source:javascript:x", "mailto:x",
	} {
		for _, name := range []string{"a href", "A HREF", "img src"} {
			quoted := "<" + name + "=\"" + link + "\">"
			want := "<a></a>"
			if name == "img src" {
				want = "<img>"
			}
			cleans(t, p, ok(quoted, want), ok(strings.ReplaceAll(quoted, "\"", "'"), want), ok("<div>"+quoted+"</div>", "<div>"+want+"</div>"))
			cleans(t, bare(), ok(quoted+"x", "x"))
		}
	}
	// A carriage return by its number is none of what is let; with a link that is let it can't be written.
	cleans(t, p, ok("<a href='java&#13;script:x'>y", "<a>y</a>"), no("<a href='https:&#13;x'>y", api.ErrRejected), ok("<a href=javascript:x>y", "<a>y</a>"), ok("<a href=\"https:x\" href=\"javascript:x\">y", `<a href="https:x">y</a>`), ok("<a href=\"javascript:x\" href=\"https:x\">y", "<a>y</a>"))
	// Such as are no scheme, or one that is let.
	cleans(t, p, same(`<a href="https:x">y</a>`), same(`<a href="HTTPS:x">y</a>`), same(`<a href="/javascript:x">y</a>`), same(`<a href="?javascript:x">y</a>`), same(`<a href="x/javascript:x">y</a>`), same(`<a href="javascript">y</a>`), same(`<a href="java script:x">y</a>`), same(`<a href="&lt;javascript:x">y</a>`), same(`<a href="javascript&amp;colon;x">y</a>`), ok("<a href='javascript&ampcolon;x'>y", `<a href="javascript&amp;ampcolon;x">y</a>`), ok("<a href='\xFFjavascript:x'>y", "<a href=\"\uFFFDjavascript:x\">y</a>"), same("<a href=\"\uFEFFjavascript:x\">y</a>"), ok("<a href='\u00A0javascript:x'>y", `<a href="&nbsp;javascript:x">y</a>`), same(`<a href=" https:x">y</a>`), same("<a href=\"ht\ttps:x\">y</a>"), same(`<a href="">y</a>`), same(`<a href=":javascript:">y</a>`), same(`<a title="javascript:x">y</a>`), same(`<a name="javascript:x">y</a>`))
	// Where no attribute is a link, none is asked.
	p.Links = nil
	cleans(t, p, same(`<a href="javascript:x">y</a>`))
	p.Links, p.Schemes = words("href src"), nil
	cleans(t, p, ok(`<a href="https:x">y</a>`, "<a>y</a>"), same(`<a href="x">y</a>`))
}
