package parse_test

import (
	"fmt"
	"math/rand"
	"regexp"
	"strings"
	"testing"

	"placket/api"
	"placket/parse"
	"placket/serial"
	"placket/tree"
)

// Trees.
func tx(s string) api.Tree                     { return api.Tree{Text: s} }
func el(tag string, kids ...api.Tree) api.Tree { return api.Tree{Tag: tag, Kids: kids} }
func at(x api.Tree, l ...api.Attr) api.Tree    { x.Attrs = l; return x }
func as(name, value string) api.Attr           { return api.Attr{Name: name, Value: value} }
func of(l ...api.Tree) []api.Tree              { return l }
func rep(s string, n int) string               { return strings.Repeat(s, n) }
func times[T any](n int, make func(i int) T) (l []T) {
	for i := range n {
		l = append(l, make(i))
	}
	return l
}

// show tells trees with all their fields; two lists are the same if they are shown so.
func show(l []api.Tree) string {
	var s strings.Builder
	showTo(&s, l)
	return s.String()
}

func showTo(s *strings.Builder, l []api.Tree) {
	for _, x := range l {
		fmt.Fprintf(s, " (%q %q %q", x.Tag, x.Text, x.Key)
		for _, a := range x.Attrs {
			fmt.Fprintf(s, " %q=%q %v", a.Name, a.Value, a.Static)
		}
		showTo(s, x.Kids)
		s.WriteString(")")
	}
}

// short is the front of a long text, for a message.
func short(s string) string { return s[:min(len(s), 300)] }

// is holds a text against the trees that it is HTML of, and what follows of them.
func is(t *testing.T, s string, want ...api.Tree) {
	t.Helper()
	got, err := parse.Get(s)
	if err != nil || show(got) != show(want) {
		t.Errorf("Get(%q): %s, %v, not%s", short(s), short(show(got)), err, short(show(want)))
	}
	if back := serial.All(got); back != s {
		t.Errorf("Get(%q) is put as %q", short(s), short(back))
	}
	for _, x := range got {
		if !tree.May(x) {
			t.Errorf("Get(%q) tells what may not be: %s", short(s), short(show(of(x))))
		}
	}
}

// not holds a text against the error that it comes to.
func not(t *testing.T, s string, want api.Code) {
	t.Helper()
	// Itself, not one that only stands for it.
	if got, err := parse.Get(s); err == nil || err != error(want) || got != nil {
		t.Errorf("Get(%q): %s, %v, not %v", short(s), short(show(got)), err, want)
	}
}

// none holds a text against ErrForm, alone, and where there is HTML beside it.
func none(t *testing.T, s string) {
	t.Helper()
	for _, x := range []string{s, "<p>" + s + "</p>", "<br>" + s, s + "<br>", "<p></p>" + s + "<b></b>"} {
		not(t, x, api.ErrForm)
	}
}

var (
	token     = regexp.MustCompile(`^(?s)(?:<(/?)([a-z][a-z0-9-]{0,11})((?: [a-z][a-z0-9-]{0,11}="(?:[ !#-%'-;=?-~]|&amp;|&lt;|&gt;|&quot;)*")*)>|(?:[ !#-%'-;=?-~]|&amp;|&lt;|&gt;|&quot;)+)`)
	attribute = regexp.MustCompile(` ([^=]*)="([^"]*)"`)
	back      = strings.NewReplacer("&amp;", "&", "&lt;", "<", "&gt;", ">", "&quot;", `"`)
)

// element is the element that a piece begins; false, if its attributes may not be.
func element(tag, attrs string) (api.Tree, bool) {
	x, seen := api.Tree{Tag: tag}, map[string]bool{}
	for _, a := range attribute.FindAllStringSubmatch(attrs, -1) {
		value := back.Replace(a[2])
		if seen[a[1]] || len(seen) == 8 || len(value) > 60 {
			return x, false
		}
		seen[a[1]] = true
		x.Attrs = append(x.Attrs, as(a[1], value))
	}
	return x, true
}

// read tells what a text is HTML of, by its pieces, without the program.
func read(s string) ([]api.Tree, bool) {
	open := []api.Tree{{}}
	for s != "" {
		m := token.FindStringSubmatch(s)
		if m == nil {
			return nil, false
		}
		s = s[len(m[0]):]
		top := &open[len(open)-1]
		if m[2] == "" {
			if text := back.Replace(m[0]); len(text) <= 60 {
				top.Kids = append(top.Kids, tx(text))
				continue
			}
			return nil, false
		}
		void := m[2] == "br" || m[2] == "hr" || m[2] == "img" || m[2] == "input"
		x, ok := element(m[2], m[3])
		switch {
		case !ok, m[1] == "/" && (len(open) == 1 || top.Tag != m[2] || m[3] != ""), m[1] == "" && len(open) > 200:
			return nil, false
		case m[1] == "/":
			open = open[:len(open)-1]
			over := &open[len(open)-1]
			over.Kids = append(over.Kids, *top)
		case void:
			top.Kids = append(top.Kids, x)
		default:
			open = append(open, x)
		}
	}
	return open[0].Kids, len(open) == 1
}

// holds holds a text against read, and tells whether it is HTML.
func holds(t *testing.T, s string) bool {
	t.Helper()
	want, ok := read(s)
	switch {
	case len(s) > 6000:
		not(t, s, api.ErrLarge)
	case !ok:
		not(t, s, api.ErrForm)
	default:
		is(t, s, want...)
	}
	return ok
}

// P10.1: ordinary ones.
func TestGet(t *testing.T) {
	is(t, "")
	is(t, "x", tx("x"))
	is(t, " ", tx(" "))
	is(t, "<p></p>", el("p"))
	is(t, "<p>a</p>b", el("p", tx("a")), tx("b"))
	is(t, "b<p>a</p>", tx("b"), el("p", tx("a")))
	is(t, "<p> a </p> ", el("p", tx(" a ")), tx(" "))
	is(t, "<p>a&lt;b</p>", el("p", tx("a<b")))
	is(t, "<br>", el("br"))
	is(t, "<br><br>x<br>", el("br"), el("br"), tx("x"), el("br"))
	is(t, "<p></p><p></p>", el("p"), el("p"))
	is(t, "<p><p></p></p>", el("p", el("p")))
	is(t, "<p>a<b>c</b>d<br>e</p>", el("p", tx("a"), el("b", tx("c")), tx("d"), el("br"), tx("e")))
	is(t, "<ul><li>1</li><li>2</li></ul>", el("ul", el("li", tx("1")), el("li", tx("2"))))
	is(t, `<p a="1"></p>`, at(el("p"), as("a", "1")))
	is(t, `<p a="1" b="">x</p>`, at(el("p", tx("x")), as("a", "1"), as("b", "")))
	is(t, `<p b="1" a="&quot;"><img src="x"></p>`, at(el("p", at(el("img"), as("src", "x"))), as("b", "1"), as("a", `"`)))
	is(t, `<root><p a="1" b="&quot;">a&lt;b<br></p>xy<p><p></p></p></root>`, el("root", at(el("p", tx("a<b"), el("br")), as("a", "1"), as("b", `"`)), tx("xy"), el("p", el("p"))))
}

// P10.1: texts: each byte, each escaped form, and what only looks like one.
func TestTexts(t *testing.T) {
	for i := range 256 {
		s := string([]byte{byte(i)})
		if i < ' ' || i > '~' || strings.Contains(`<>&"`, s) {
			none(t, s)
			none(t, "x"+s)
			none(t, s+"x")
			not(t, `<p a="`+s+`"></p>`, api.ErrForm)
			continue
		}
		is(t, s, tx(s))
		is(t, "<p>"+s+"</p>"+s+"<br>"+s, el("p", tx(s)), tx(s), el("br"), tx(s))
		is(t, `<p a="`+s+`" b="`+s+`"></p>`, at(el("p"), as("a", s), as("b", s)))
	}
	for _, c := range [][2]string{
		{"&amp;", "&"}, {"&lt;", "<"}, {"&gt;", ">"}, {"&quot;", `"`}, {"&amp;amp;", "&amp;"}, {"&amp;lt;", "&lt;"}, {"&lt;p&gt;&lt;/p&gt;", "<p></p>"}, {"&lt;/p&gt;", "</p>"}, {"x&amp;y", "x&y"}, {"&lt;!-- --&gt;", "<!-- -->"},
		{"'", "'"}, {"amp;", "amp;"}, {"lt", "lt"}, {"a = 'b'/", "a = 'b'/"}, {"/p", "/p"}, {"p", "p"}, {"br", "br"}, {` a=&quot;1&quot;`, ` a="1"`}, {"&quot;&gt;&lt;p&gt;", `"><p>`},
	} {
		is(t, c[0], tx(c[1]))
		is(t, "<p>"+c[0]+"</p>"+c[0], el("p", tx(c[1])), tx(c[1]))
		is(t, `<br a="`+c[0]+`">`, at(el("br"), as("a", c[1])))
	}
	for _, s := range []string{
		"&", "&amp", "&;", "& amp;", "&AMP;", "&Lt;", "&quote;", "&apos;", "&#38;", "&#60;", "&#x3c;", "&nbsp;", "&am;", "&&amp;", "&amp;&", "&lt", "<", ">", `"`, "a>b", "a<b", "a < b", "\u00e9", "\xff", "\n", "\t", "\x00", "\x7f", "x\r\n",
	} {
		none(t, s)
		not(t, `<p a="`+s+`"></p>`, api.ErrForm)
	}
}

// P10.1: a text has at most 60 bytes, as it is, not as it stands in the HTML.
func TestLongTexts(t *testing.T) {
	for _, s := range []string{"x", " ", "&", "<", ">", `"`} {
		e := s
		for _, c := range [][2]string{{"&", "&amp;"}, {"<", "&lt;"}, {">", "&gt;"}, {`"`, "&quot;"}} {
			if s == c[0] {
				e = c[1]
			}
		}
		for _, n := range []int{1, 59, 60} {
			is(t, rep(e, n), tx(rep(s, n)))
			is(t, "<p>"+rep(e, n)+"</p>"+rep(e, n), el("p", tx(rep(s, n))), tx(rep(s, n)))
			is(t, `<p a="`+rep(e, n)+`"></p>`, at(el("p"), as("a", rep(s, n))))
		}
		for _, n := range []int{61, 62, 120, 900} {
			none(t, rep(e, n))
			not(t, `<p a="`+rep(e, n)+`"></p>`, api.ErrForm)
			not(t, `<br a="`+rep(e, n)+`">`, api.ErrForm)
			// Two texts beside each other would be the same text, but they are none.
			not(t, rep(e, 60)+rep(e, n-60), api.ErrForm)
		}
	}
}

// P10.1: which tags and Names are: names.
func TestNames(t *testing.T) {
	for _, s := range []string{"a", "z", "p", "h1", "a-", "a-b", "a--", "div", "root", "z9-9z", "abcdefghijkl", "area", "wbr", "brr", "b", "in", "inputs"} {
		is(t, "<"+s+"></"+s+">", el(s))
		is(t, "<"+s+">x</"+s+">", el(s, tx("x")))
		is(t, "<p "+s+`="1"></p>`, at(el("p"), as(s, "1")))
		is(t, "<br "+s+`="">`, at(el("br"), as(s, "")))
	}
	for _, s := range []string{"", "1", "-", "A", "P", "aB", "DIV", "a_", "a.b", "a:b", "a/", "/", "/a", "a'", "a=", "a&", "a;", "\u00e9", "a\u00e9", "\xff", "a\n", "\ta", "a\x00", "abcdefghijklm", "!", "!--", "?", "a b", " a", "a "} {
		none(t, "<"+s+"></"+s+">")
		none(t, "<"+s+">x</"+s+">")
		none(t, "<"+s+">")
		none(t, "<p "+s+`="1"></p>`)
		none(t, "<br "+s+`="">`)
	}
	// What of another name is void is not.
	for _, s := range []string{"BR", "Br", "bR", "br/", "br /", "br ", " br"} {
		none(t, "<"+s+">")
	}
}

// P10.1: void ones have no end, and nothing in them; others have.
func TestVoid(t *testing.T) {
	for _, s := range []string{"br", "hr", "img", "input"} {
		is(t, "<"+s+">", el(s))
		is(t, "<"+s+` a="1">`, at(el(s), as("a", "1")))
		is(t, "<"+s+">x", el(s), tx("x"))
		is(t, "<p><"+s+"></p>", el("p", el(s)))
		is(t, "<p><"+s+">x<"+s+"></p>", el("p", el(s), tx("x"), el(s)))
		none(t, "<"+s+"></"+s+">")
		none(t, "<"+s+">x</"+s+">")
		none(t, "<"+s+"/>")
		none(t, "<"+s+" />")
		none(t, "</"+s+">")
		none(t, "<p></"+s+">")
		none(t, "<"+s+"></p>")
	}
	for _, s := range []string{"area", "base", "col", "embed", "link", "meta", "source", "track", "wbr"} {
		none(t, "<"+s+">")
	}
}

// P10.1: each element ends, by its own tag, in its place.
func TestEnds(t *testing.T) {
	for _, s := range []string{
		"<p>", "<p>x", "</p>", "x</p>", "</p><p>", "<p></p></p>", "<p><p></p>", "<p></b>", "<p><b></p></b>", "<p><b></b>", "<p></p", "<p></p ", "<p></p >", "<p></ p>", "< p></p>", "<p>< /p>", "<p/>", "<p />", "<p></P>", "<P></P>", "<p></pp>", "<pp></p>", "<p></>", "<></p>",
		"<></>", "<>", "</>", "<", "</", "<p", "<p></", "<p><", "<p><</p>", "<p>></p>", "<<p></p>", "<p></p>>", "<p></p><", "<p<p></p>", `<p></p a="1">`, `<p a="1"></p a="1">`, `<p></p"">`, "<p>x</p/>", "<p></br>", "<p></p>x</p>", "<p><b>x</p>", "<p>x</b></p>",
		"<!-- -->", "<!doctype html>", "<!DOCTYPE html><p></p>", "<![CDATA[x]]>", "<?xml?>", "<script>a<b</script>", "<li>1<li>2", "<p>1<p>2",
	} {
		for _, x := range []string{s, "x" + s, s + "x", "<br>" + s, s + "<br>", "<b></b>" + s, s + "<b></b>", "<b>" + s + "</b>"} {
			not(t, x, api.ErrForm)
		}
	}
}

// P10.1: attributes: a blank ahead of each, = and quotes without blanks, no Name twice, at most eight, in order.
func TestAttrs(t *testing.T) {
	name := func(i int) string { return string(rune('h' - i)) }
	for n := range 20 {
		l := times(n, func(i int) api.Attr { return as(name(i%8)+rep("x", i/8), fmt.Sprint(i)) })
		s := ""
		for _, a := range l {
			s += " " + a.Name + `="` + a.Value + `"`
		}
		if n > 8 {
			none(t, "<p"+s+"></p>")
			none(t, "<br"+s+">")
			continue
		}
		is(t, "<p"+s+"></p>", at(el("p"), l...))
		is(t, "<p"+s+"><b"+s+">x</b><br"+s+"></p>", at(el("p", at(el("b", tx("x")), l...), at(el("br"), l...)), l...))
		for _, a := range l {
			none(t, "<p"+s+" "+a.Name+`="`+a.Value+`"></p>`)
			none(t, "<br"+s+" "+a.Name+`="">`)
		}
	}
	for _, s := range []string{
		" ", "  ", " a", " a=", ` a="`, ` a="1`, ` a=1`, " a='1'", ` a ="1"`, ` a= "1"`, `  a="1"`, ` a="1" `, `a="1"`, "\ta=\"1\"", "\na=\"1\"", ` a="1"  b="2"`, ` a="1"b="2"`, ` a="1"xb="2"`, ` a="1",b="2"`, ` a="1" b`, ` a b="1"`, ` a="1" a="1"`, ` a="1" b="2" a="3"`,
		` a=""1"`, ` a="1""`, ` a==""`, ` ="1"`, ` A="1"`, ` a="1" /`, ` a="1"/`, `/a="1"`, ` a="<"`, ` a=">"`, ` a="&"`, " a=\"\n\"", ` a="1" B="2"`, ` "1"`, ` ""`, ` a=""b=""`, ` a='"'`, ` a=&quot;1&quot;`,
	} {
		none(t, "<p"+s+"></p>")
		none(t, "<p"+s+">x</p>")
		none(t, "<br"+s+">")
		none(t, `<p z="9"`+s+"></p>")
	}
}

// P10.1: elements are at most 200 deep; a void one counts as each other, a text doesn't.
func TestDeep(t *testing.T) {
	deep := func(n int, in ...api.Tree) []api.Tree {
		for range n {
			in = of(el("p", in...))
		}
		return in
	}
	put := func(n int, in string) string { return rep("<p>", n) + in + rep("</p>", n) }
	for _, n := range []int{1, 2, 198, 199, 200} {
		is(t, put(n, ""), deep(n)...)
		is(t, put(n, "x"), deep(n, tx("x"))...)
		is(t, put(n, "x")+put(n, ""), append(deep(n, tx("x")), deep(n)...)...)
		is(t, put(n-1, "<br>x<br>"), deep(n-1, el("br"), tx("x"), el("br"))...)
		is(t, "<br>"+put(n, "")+"x", append(append(of(el("br")), deep(n)...), tx("x"))...)
	}
	for _, n := range []int{201, 202, 400, 857} {
		not(t, put(n, ""), api.ErrForm)
		not(t, put(n-1, "<br>"), api.ErrForm)
		not(t, put(n-1, "x<img>x"), api.ErrForm)
		not(t, put(n-1, "<b></b>"), api.ErrForm)
		if n < 800 {
			not(t, put(n, "x"), api.ErrForm)
			not(t, "x<p></p>"+put(n, ""), api.ErrForm)
			not(t, put(n, "")+"<p></p>x", api.ErrForm)
			not(t, "<b>"+put(n-1, "<i></i>")+"<br></b>", api.ErrForm)
			not(t, "<b>"+put(n-1, "")+"</b>", api.ErrForm)
		}
	}
	// Many, but not deep: more nodes than a document may have.
	is(t, rep("<p></p>", 857), times(857, func(int) api.Tree { return el("p") })...)
	is(t, rep("<br>", 1500), times(1500, func(int) api.Tree { return el("br") })...)
	is(t, "<p>"+rep("<br>x", 300)+"</p>", el("p", times(600, func(i int) api.Tree { return []api.Tree{el("br"), tx("x")}[i%2] })...))
}

// P10.1, P1: more than 6000 bytes are too many, whatever they are; it doesn't get slow.
func TestLarge(t *testing.T) {
	whole := rep("<p>"+rep("x", 60)+"</p><br>x", 82) + "<p>" + rep("x", 60) + "</p>" + rep("y", 25)
	if len(whole) != 5996 {
		t.Fatal(len(whole))
	}
	var want []api.Tree
	for range 82 {
		want = append(want, el("p", tx(rep("x", 60))), el("br"), tx("x"))
	}
	want = append(want, el("p", tx(rep("x", 60))), tx(rep("y", 25)))
	is(t, whole, want...)
	is(t, whole+"<br>", append(want[:len(want):len(want)], el("br"))...)
	want[len(want)-1].Text += "yyyy"
	is(t, whole+"yyyy", want...)
	not(t, whole+"yyyyy", api.ErrLarge)
	not(t, whole+"<br>x", api.ErrLarge)
	for _, s := range []string{"x", "<", ">", "</", "<p>", "<p", "</p>", "<>", " ", "\"", "&", "&amp;", "\xff", "\x00", ` a="1"`, `<p a="`, `<p `, `<br>`, `=`, `="`} {
		for _, n := range []int{5997, 6000} {
			holds(t, rep(s, n)[:n])
			holds(t, ("<p" + rep(s, n))[:n])
			holds(t, ("<p " + rep(s, n))[:n])
			holds(t, (`<p a="` + rep(s, n))[:n])
		}
		for _, n := range []int{6001, 6002, 12000, 1 << 20} {
			not(t, rep(s, n)[:n], api.ErrLarge)
		}
	}
	not(t, rep("x", 6000), api.ErrForm)
	not(t, rep("<p>", 201)+rep("</p>", 2000), api.ErrLarge)
	not(t, rep("<br>", 1500)+"<", api.ErrLarge)
	not(t, rep("x", 1<<28), api.ErrLarge)
}

// each calls with all texts of at most so many pieces behind s.
func each(s string, pieces []string, n int, call func(s string)) {
	call(s)
	if n == 0 {
		return
	}
	for _, p := range pieces {
		each(s+p, pieces, n-1, call)
	}
}

// P10.1, P10.3: all texts of few pieces, and of few bytes, alone and inside an opening.
func TestSmall(t *testing.T) {
	some := 0
	count := func(s string) {
		if holds(t, s) {
			some++
		}
		if t.Failed() {
			t.FailNow()
		}
	}
	each("", []string{"<p>", "</p>", "<b>", "</b>", "<br>", "</br>", "x", "&lt;", `<p a="1">`, `<br a="">`, "<", ">", `"`, "&"}, 4, count)
	each("", []string{"<p>", "</p>", "<br>", "x", "<b>", "</b>"}, 6, count)
	each("", []string{"<", ">", "/", "p", " ", `"`, "=", "&"}, 5, count)
	each("", []string{" ", "a", "b", "=", `"`, `="`, `" `, "&gt;", ">"}, 5, func(s string) { count("<p" + s + "></p>"); count(`<br a="` + s + ">") })
	if some < 5000 {
		t.Errorf("only %d are HTML", some)
	}
}

// P10.1: HTML of which one byte is left out, another one, one more, or two that are exchanged.
func TestNear(t *testing.T) {
	letters := "<>/&\"=; pbxA1-\n\xff"
	for _, s := range []string{
		"<p>a</p>b", `<p a="1" b="&quot;">a&lt;b<br></p>xy<p><p></p></p>`, `<img src="x"><ul><li>1</li><li>&amp;</li></ul>`, "<br><hr>", "<p><b><i>x</i></b></p>", "<abcdefghijkl></abcdefghijkl>", `<p a="1" b="2" c="3" d="4" e="5" f="6" g="7" h="8">x</p>`, rep("x", 60) + "<br>" + rep("&gt;", 60),
	} {
		holds(t, s)
		for i := range len(s) + 1 {
			for j := range len(letters) {
				holds(t, s[:i]+letters[j:j+1]+s[i:])
				if i < len(s) {
					holds(t, s[:i]+letters[j:j+1]+s[i+1:])
				}
			}
			if i < len(s) {
				holds(t, s[:i]+s[i+1:])
				holds(t, s[:i])
				holds(t, s[i:])
			}
			if i+1 < len(s) {
				holds(t, s[:i]+s[i+1:i+2]+s[i:i+1]+s[i+2:])
			}
		}
	}
}

// some are trees that pick chooses, that may be, and that HTML leaves nothing out of.
func some(pick func(n int) int, levels int) (l []api.Tree) {
	str := func() string {
		s := ""
		for range 1 + pick(8) {
			s += []string{"x", "<", ">", "&", `"`, " ", "amp;", "/", "=", "lt;", "br", "-", ";"}[pick(13)]
		}
		return s
	}
	text := false
	for range pick(5) {
		if !text && pick(2) == 0 {
			l, text = append(l, tx(str())), true
			continue
		}
		x := el([]string{"p", "b", "br", "img", "div", "h1"}[pick(6)])
		for i := range pick(4) {
			x.Attrs = append(x.Attrs, as(string(rune('d'-i)), str()))
		}
		if levels > 0 && x.Tag != "br" && x.Tag != "img" {
			x.Kids = some(pick, levels-1)
		}
		l, text = append(l, x), false
	}
	return l
}

// run gets the HTML of trees, and the HTML where some of its bytes are others.
func run(t *testing.T, pick func(n int) int) {
	l := some(pick, 3)
	s := serial.All(l)
	if len(s) > 6000 {
		not(t, s, api.ErrLarge)
		return
	}
	is(t, s, l...)
	for range pick(4) {
		i, j := pick(len(s)+1), pick(len(s)+1)
		i, j = min(i, j), max(i, j)
		switch pick(3) {
		case 0:
			s = s[:i] + s[j:]
		case 1:
			s = s[:i] + s[i:j] + s[i:]
		default:
			s = s[:i] + []string{"<", ">", "</", "x", " ", `"`, "&", "=", "<p>", "</p>", "<br>"}[pick(11)] + s[i:]
		}
		holds(t, s)
	}
}

// P10.1, P10.3, T6: many by a fixed seed.
func TestRuns(t *testing.T) {
	r := rand.New(rand.NewSource(10))
	for n := range 4000 {
		if run(t, r.Intn); t.Failed() {
			t.Fatalf("run %d", n)
		}
	}
}

// spoil changes all that trees have, and adds to each list.
func spoil(l []api.Tree) {
	for i := range l {
		spoil(l[i].Kids)
		for j := range l[i].Attrs {
			l[i].Attrs[j] = api.Attr{Name: "spoilt", Value: "spoilt", Static: true}
		}
		_ = append(l[i].Attrs, as("spoilt", ""))
		_ = append(l[i].Kids, tx("spoilt"))
		l[i] = api.Tree{Tag: "spoilt"}
	}
	_ = append(l, tx("spoilt"))
}

// P10.2: what is told is new memory: no list of it is shared with another one, nor with what is told the next time.
func TestNewMemory(t *testing.T) {
	const s = `<p a="1" b="2"><b a="1">x</b><b a="1">x</b><br a="1"></p><p a="1" b="2"></p>y`
	want, ok := read(s)
	if !ok {
		t.Fatal(s)
	}
	first, _ := parse.Get(s)
	second, _ := parse.Get(s)
	spoil(first[0].Kids)
	first[0].Kids = want[0].Kids
	if show(first) != show(want) {
		t.Errorf("%s, not%s", show(first), show(want))
	}
	spoil(first[1:2:2])
	first[1] = want[1]
	if show(first) != show(want) {
		t.Errorf("%s, not%s", show(first), show(want))
	}
	spoil(first)
	want, _ = read(s)
	if show(second) != show(want) {
		t.Errorf("%s, not%s", show(second), show(want))
	}
	is(t, s, want...)
}

// P1: nothing is kept: goroutines may get the same text at once (go test -race sees it).
func TestAtOnce(t *testing.T) {
	const s = `<p a="&gt;">x<br></p>y`
	ends := make(chan string)
	for range 4 {
		go func() {
			l, err := parse.Get(s)
			_, bad := parse.Get(s + "<")
			ends <- show(l) + fmt.Sprint(err, bad)
		}()
	}
	want := show(of(at(el("p", tx("x"), el("br")), as("a", ">")), tx("y"))) + fmt.Sprint(error(nil), api.ErrForm)
	for range 4 {
		if got := <-ends; got != want {
			t.Errorf("%s, not %s", got, want)
		}
	}
}

// P1: a goal for go test -fuzz; its seeds run in every test.
func FuzzParse(f *testing.F) {
	for _, s := range []string{
		"", "x", "<p>a</p>b", `<p a="1" b="&quot;">a&lt;b<br></p>xy<p><p></p></p>`, "<p></b>", "<p", `<p a="`, "</p>", "<>", "&amp;&", "<br></br>", "<P></P>", "x\x00", rep("<p>", 200) + rep("</p>", 200), rep("<p>", 201) + rep("</p>", 201), rep("x", 61), rep("<br>", 1501),
	} {
		f.Add(s)
	}
	f.Fuzz(func(t *testing.T, s string) { holds(t, s) })
}
