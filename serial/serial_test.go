package serial_test

import (
	"fmt"
	"math/rand"
	"regexp"
	"strings"
	"testing"

	"placket/api"
	"placket/dom"
	"placket/mut"
	"placket/serial"
	"placket/tree"
)

// Trees.
func tx(s string) api.Tree                       { return api.Tree{Text: s} }
func el(tag string, kids ...api.Tree) api.Tree   { return api.Tree{Tag: tag, Kids: kids} }
func key(x api.Tree, key string) api.Tree        { x.Key = key; return x }
func at(x api.Tree, l ...api.Attr) api.Tree      { x.Attrs = l; return x }
func said(x api.Tree, s string) api.Tree         { x.Text = s; return x }
func with(x api.Tree, kids ...api.Tree) api.Tree { x.Kids = kids; return x }
func plain(name, value string) api.Attr          { return api.Attr{Name: name, Value: value} }
func static(name, value string) api.Attr         { return api.Attr{Name: name, Value: value, Static: true} }
func rep(s string, n int) string                 { return strings.Repeat(s, n) }
func times[T any](n int, make func(i int) T) (l []T) {
	for i := range n {
		l = append(l, make(i))
	}
	return l
}

// show tells a tree with all its fields; two are the same if they are shown so.
func show(x api.Tree) string {
	var s strings.Builder
	showTo(&s, x)
	return s.String()
}

func showAll(l []api.Tree) string {
	var s strings.Builder
	for _, x := range l {
		s.WriteString(" ")
		showTo(&s, x)
	}
	return s.String()
}

func showTo(s *strings.Builder, x api.Tree) {
	fmt.Fprintf(s, "(%q %q %q", x.Tag, x.Text, x.Key)
	for _, a := range x.Attrs {
		fmt.Fprintf(s, " %q=%q %v", a.Name, a.Value, a.Static)
	}
	for _, kid := range x.Kids {
		s.WriteString(" ")
		showTo(s, kid)
	}
	s.WriteString(")")
}

// short is the front of a long text, for a message.
func short(s string) string { return s[:min(len(s), 300)] }

// has holds Put of a tree, and All of it alone, against want.
func has(t *testing.T, x api.Tree, want string) {
	t.Helper()
	if got := serial.Put(x); got != want {
		t.Errorf("Put(%s): %q, not %q", short(show(x)), short(got), short(want))
	}
	if got := serial.All([]api.Tree{x}); got != want {
		t.Errorf("All(%s): %q, not %q", short(show(x)), short(got), short(want))
	}
}

// hasAll holds All of some trees against want.
func hasAll(t *testing.T, l []api.Tree, want string) {
	t.Helper()
	if got := serial.All(l); got != want {
		t.Errorf("All(%s): %q, not %q", short(showAll(l)), short(got), short(want))
	}
}

// signs are the four signs with what stands in their places, by the numbers of layer 2's chapter.
var signs = strings.NewReplacer(
	"\x26", string([]byte{38, 97, 109, 112, 59}), "\x3c", string([]byte{38, 108, 116, 59}),
	"\x3e", string([]byte{38, 103, 116, 59}), "\x22", string([]byte{38, 113, 117, 111, 116, 59}))

// html tells the HTML of some trees without the program: by a list of what is left, not by a call to itself.
func html(l ...api.Tree) string {
	type piece struct {
		x   api.Tree
		end string
	}
	var left []piece
	push := func(l []api.Tree) {
		for i := len(l) - 1; i >= 0; i-- {
			left = append(left, piece{x: l[i]})
		}
	}
	push(l)
	var out []string
	for len(left) > 0 {
		p := left[len(left)-1]
		left = left[:len(left)-1]
		switch p.x.Tag {
		case "":
			out = append(out, p.end, signs.Replace(p.x.Text))
		case "br", "hr", "img", "input":
			out = append(out, opening(p.x))
		default:
			out = append(out, opening(p.x))
			left = append(left, piece{end: "\x3c\x2f" + p.x.Tag + "\x3e"})
			push(p.x.Kids)
		}
	}
	return strings.Join(out, "")
}

func opening(x api.Tree) string {
	words := []string{"\x3c" + x.Tag}
	for _, a := range x.Attrs {
		words = append(words, a.Name+"\x3d\x22"+signs.Replace(a.Value)+"\x22")
	}
	return strings.Join(words, "\x20") + "\x3e"
}

// P9.1: the chapter's example.
func TestExample(t *testing.T) {
	has(t, el("p", tx("a<b")), "<p>a\x26\x6c\x74\x3bb</p>")
}

// P9.1: texts.
func TestTexts(t *testing.T) {
	for _, c := range [][2]string{
		{"", ""}, {"x", "x"}, {" ", " "}, {"  x  y  ", "  x  y  "}, {"~", "~"}, {"it's", "it's"}, {"/p", "/p"}, {";", ";"}, {"br", "br"},
		{"&", "&amp;"}, {"<", "&lt;"}, {">", "&gt;"}, {`"`, "&quot;"}, {`&<>"`, "&amp;&lt;&gt;&quot;"}, {"&amp;", "&amp;amp;"}, {"&lt;p&gt;", "&amp;lt;p&amp;gt;"},
		{`<p a="1">x</p>`, "&lt;p a=&quot;1&quot;&gt;x&lt;/p&gt;"}, {rep(`"`, 60), rep("&quot;", 60)}, {rep("x", 60), rep("x", 60)},
		// No texts, but put likewise.
		{"\n", "\n"}, {"\x00<\xff", "\x00&lt;\xff"}, {"\u00e9\u4e16", "\u00e9\u4e16"}, {rep("<", 61), rep("&lt;", 61)},
	} {
		has(t, tx(c[0]), c[1])
		has(t, el("p", tx(c[0])), "<p>"+c[1]+"</p>")
		has(t, el("p", tx(c[0]), el("b"), tx(c[0])), "<p>"+c[1]+"<b></b>"+c[1]+"</p>")
		has(t, at(el("p"), plain("a", c[0])), `<p a="`+c[1]+`"></p>`)
		has(t, at(el("br"), plain("b", c[0]), static("a", c[0])), `<br b="`+c[1]+`" a="`+c[1]+`">`)
		hasAll(t, []api.Tree{tx(c[0]), tx(c[0])}, c[1]+c[1])
	}
}

// P9.1: each byte in a text, and in an attribute's value.
func TestEveryByte(t *testing.T) {
	for b := range 256 {
		one := string([]byte{byte(b)})
		for _, s := range []string{one, one + one, "a" + one + "b", one + "<" + one} {
			has(t, tx(s), signs.Replace(s))
			has(t, at(el("p", tx(s)), plain("a", s), plain("b", "")), `<p a="`+signs.Replace(s)+`" b="">`+signs.Replace(s)+"</p>")
		}
	}
}

// P9.1: elements: a tag in front, and behind; nothing between that isn't there.
func TestElements(t *testing.T) {
	for _, c := range []struct {
		x    api.Tree
		want string
	}{
		{el("p"), "<p></p>"}, {el("a"), "<a></a>"}, {el("h1"), "<h1></h1>"}, {el("a-1-"), "<a-1-></a-1->"}, {el("root"), "<root></root>"}, {el(rep("z", 12)), "<" + rep("z", 12) + "></" + rep("z", 12) + ">"},
		{api.Tree{Tag: "p", Attrs: []api.Attr{}, Kids: []api.Tree{}}, "<p></p>"},
		{el("p", tx("x")), "<p>x</p>"}, {el("p", tx("")), "<p></p>"}, {el("p", tx("x"), tx("y")), "<p>xy</p>"}, {el("p", tx("y"), tx("x")), "<p>yx</p>"},
		{el("p", el("p")), "<p><p></p></p>"}, {el("p", el("b"), el("i")), "<p><b></b><i></i></p>"}, {el("p", el("i"), el("b")), "<p><i></i><b></b></p>"}, {el("p", el("b", el("i"))), "<p><b><i></i></b></p>"},
		{el("p", tx("x"), el("b", tx("y")), tx("z")), "<p>x<b>y</b>z</p>"}, {el("p", el("b", tx("y")), tx("x"), el("b", tx("z"))), "<p><b>y</b>x<b>z</b></p>"},
		{el("ul", el("li", tx("1")), el("li", tx("2"), el("ul", el("li", tx("3")))), el("li")), "<ul><li>1</li><li>2<ul><li>3</li></ul></li><li></li></ul>"},
		{el("script", tx("a<b&&c>d")), "<script>a&lt;b&amp;&amp;c&gt;d</script>"}, {el("pre", tx(" x "), tx(" ")), "<pre> x  </pre>"},
	} {
		has(t, c.x, c.want)
	}
}

// P9.1: attributes, in order, each behind one blank; static ones as the others, in their places.
func TestAttributes(t *testing.T) {
	for _, c := range []struct {
		l    []api.Attr
		want string
	}{
		{nil, ""}, {[]api.Attr{}, ""},
		{[]api.Attr{plain("a", "1")}, ` a="1"`}, {[]api.Attr{static("a", "1")}, ` a="1"`}, {[]api.Attr{plain("a", "")}, ` a=""`}, {[]api.Attr{static("a", "")}, ` a=""`},
		{[]api.Attr{plain("a", " ")}, ` a=" "`}, {[]api.Attr{plain("a", "a=b c")}, ` a="a=b c"`}, {[]api.Attr{plain("a", `1" b="2`)}, ` a="1&quot; b=&quot;2"`}, {[]api.Attr{plain("a", "it's")}, ` a="it's"`},
		{[]api.Attr{plain("a", "1"), plain("b", "2")}, ` a="1" b="2"`}, {[]api.Attr{plain("b", "2"), plain("a", "1")}, ` b="2" a="1"`},
		{[]api.Attr{plain("c", "3"), static("b", "2"), plain("a", "1"), static("d", "4")}, ` c="3" b="2" a="1" d="4"`},
		{[]api.Attr{plain("key", "k"), plain("static", "s"), plain("text", "t")}, ` key="k" static="s" text="t"`},
		{[]api.Attr{plain(rep("a", 12), rep("<", 60))}, " " + rep("a", 12) + `="` + rep("&lt;", 60) + `"`},
		{times(8, func(i int) api.Attr {
			return api.Attr{Name: string(rune('h' - i)), Value: fmt.Sprint(i), Static: i%2 == 0}
		}), ` h="0" g="1" f="2" e="3" d="4" c="5" b="6" a="7"`},
		// That may not be, but are put likewise: none is left out, and Names stay as they are.
		{times(20, func(i int) api.Attr { return plain("a", "1") }), rep(` a="1"`, 20)},
		{[]api.Attr{plain("a", "1"), static("a", "2")}, ` a="1" a="2"`}, {[]api.Attr{{}}, ` =""`}, {[]api.Attr{plain("", "x"), plain("<A>&\"", "x")}, ` ="x" <A>&"="x"`}, {[]api.Attr{plain("\xff", "\xff")}, " \xff=\"\xff\""},
	} {
		has(t, at(el("p"), c.l...), "<p"+c.want+"></p>")
		has(t, at(el("p", tx("x")), c.l...), "<p"+c.want+">x</p>")
		has(t, at(el("hr"), c.l...), "<hr"+c.want+">")
		has(t, el("p", at(el("b", at(el("img"), c.l...)), c.l...), tx("y")), "<p><b"+c.want+"><img"+c.want+"></b>y</p>")
	}
}

// P9.1: a void element ends with its >, and its Kids are left out, wherever it stands.
func TestVoid(t *testing.T) {
	for _, void := range []string{"br", "hr", "img", "input"} {
		alone := "<" + void + ">"
		has(t, el(void), alone)
		has(t, api.Tree{Tag: void, Kids: []api.Tree{}}, alone)
		has(t, key(at(el(void), plain("a", "1"), static("b", "<")), "k"), "<"+void+` a="1" b="&lt;">`)
		for _, kids := range [][]api.Tree{{tx("x")}, {tx("")}, {el("p")}, {el(void)}, {tx("x"), el("p", tx("y")), tx("z")}} {
			has(t, el(void, kids...), alone)
			has(t, at(el(void, kids...), plain("a", "1")), "<"+void+` a="1">`)
			has(t, el("p", tx("1"), el(void, kids...), tx("2"), el("b", el(void, kids...))), "<p>1"+alone+"2<b>"+alone+"</b></p>")
			hasAll(t, []api.Tree{el(void, kids...), el(void, kids...), tx("x")}, alone+alone+"x")
		}
		// What only looks like one.
		for _, tag := range []string{strings.ToUpper(void), void + "x", void + " ", " " + void, void[1:], void + void, void + "-"} {
			has(t, el(tag, tx("x")), "<"+tag+">x</"+tag+">")
			has(t, el(tag), "<"+tag+"></"+tag+">")
		}
	}
	// Void in HTML, but not in the document.
	for _, tag := range []string{"area", "base", "col", "embed", "link", "meta", "param", "source", "track", "wbr"} {
		has(t, el(tag), "<"+tag+"></"+tag+">")
	}
}

// P9.1: keys, and which attributes are static, are left out: alike without them, at the top and below.
func TestLeftOut(t *testing.T) {
	for _, k := range []string{"k", " ", "key", "<k>", rep("k", 60), "\n", rep("k", 61)} {
		has(t, key(el("p"), k), "<p></p>")
		has(t, key(el("br"), k), "<br>")
		has(t, key(at(el("p", key(el("b", tx("x")), k), key(el("b"), k)), plain("a", "1")), k), `<p a="1"><b>x</b><b></b></p>`)
	}
	for n := range 1 << 4 {
		l := times(4, func(i int) api.Attr {
			return api.Attr{Name: string(rune('d' - i)), Value: fmt.Sprint(i), Static: n>>i&1 == 1}
		})
		has(t, el("p", at(el("b"), l...), at(el("br"), l...)), `<p><b d="0" c="1" b="2" a="3"></b><br d="0" c="1" b="2" a="3"></p>`)
	}
}

// P9.1: what may not be is put by the same words: without a Tag a text, of its Text alone; else an element, without its Text.
func TestMayNotBe(t *testing.T) {
	for _, c := range []struct {
		x    api.Tree
		want string
	}{
		{api.Tree{}, ""}, {key(tx("x"), "k"), "x"}, {key(tx(""), "k"), ""}, {at(tx("x"), plain("a", "1")), "x"}, {with(tx("x"), tx("y")), "x"}, {with(tx(""), el("p")), ""},
		{key(at(with(tx("<"), el("p", tx("y")), tx("z")), static("a", "1")), "k"), "&lt;"}, {said(el("p"), "x"), "<p></p>"}, {said(el("p", tx("y")), "x"), "<p>y</p>"}, {said(el("br"), "x"), "<br>"},
		{el("P"), "<P></P>"}, {el("1"), "<1></1>"}, {el(" "), "< ></ >"}, {el("<>"), "<<>></<>>"}, {el(`&"`), `<&"></&">`}, {el("/p"), "</p><//p>"}, {el("\xff\x00\n"), "<\xff\x00\n></\xff\x00\n>"}, {el("\u00e9", el("p")), "<\u00e9><p></p></\u00e9>"},
		{el(rep("z", 13)), "<" + rep("z", 13) + "></" + rep("z", 13) + ">"},
	} {
		has(t, c.x, c.want)
		has(t, el("p", tx("1"), c.x, el("b")), "<p>1"+c.want+"<b></b></p>")
		hasAll(t, []api.Tree{c.x, tx("1"), c.x}, c.want+"1"+c.want)
	}
}

// P9.1: All: one behind the other, nothing between; of none, nothing.
func TestAll(t *testing.T) {
	hasAll(t, nil, "")
	hasAll(t, []api.Tree{}, "")
	hasAll(t, make([]api.Tree, 9), "")
	hasAll(t, []api.Tree{el("p", tx("a")), tx("b")}, "<p>a</p>b")
	hasAll(t, []api.Tree{tx("b"), el("p", tx("a"))}, "b<p>a</p>")
	hasAll(t, []api.Tree{tx("a"), tx("<"), tx("b"), tx("")}, "a&lt;b")
	hasAll(t, []api.Tree{el("p"), el("br"), el("p", el("hr")), el("p")}, "<p></p><br><p><hr></p><p></p>")
	hasAll(t, []api.Tree{tx("&"), tx("amp;"), tx("<"), tx("p>")}, "&amp;amp;&lt;p&gt;")
	some := []api.Tree{tx(""), tx("x"), tx("&"), el("p"), el("p", tx("x")), el("br"), el("br", tx("x")), key(at(el("b", el("i")), static("a", ">")), "k"), {Tag: "1", Text: "x"}}
	for _, x := range some {
		for _, y := range some {
			for _, z := range some {
				hasAll(t, []api.Tree{x, y, z}, serial.Put(x)+serial.Put(y)+serial.Put(z))
				hasAll(t, []api.Tree{x, y, z}, html(x, y, z))
				has(t, el("p", x, y, z), "<p>"+html(x, y, z)+"</p>")
			}
		}
	}
}

// P9.1: the trees of a document, as layer 8 tells them.
func TestOfDocument(t *testing.T) {
	d, err := dom.New(20)
	if err != nil {
		t.Fatal(err)
	}
	l := mut.New(d)
	for _, x := range []api.Tree{key(at(el("p", tx("a<b"), el("br"), tx("")), static("a", "1"), plain("b", `"`)), "k"), tx("x"), tx("y"), el("p", key(el("p"), "k"))} {
		if _, err := tree.Build(l, d, 1, 0, x); err != nil {
			t.Fatal(err)
		}
	}
	x, _ := tree.Of(d, 1)
	has(t, x, `<root><p a="1" b="&quot;">a&lt;b<br></p>xy<p><p></p></p></root>`)
}

// P9.1, P1: as deep, and as wide, as the document's limits let a tree be; it doesn't get slow.
func TestGreat(t *testing.T) {
	const n = 1<<16 - 2
	deep := tx("x")
	for range n {
		deep = el("p", deep)
	}
	has(t, deep, rep("<p>", n)+"x"+rep("</p>", n))
	wide := times(n, func(int) api.Tree { return at(el("b", tx("<")), plain("a", ">")) })
	hasAll(t, wide, rep(`<b a="&gt;">&lt;</b>`, n))
	has(t, el("p", wide...), "<p>"+rep(`<b a="&gt;">&lt;</b>`, n)+"</p>")
	has(t, el("img", wide...), "<img>")
	has(t, at(el("p"), times(n, func(int) api.Attr { return plain("a", "1") })...), "<p"+rep(` a="1"`, n)+"></p>")
	long := rep("<x", 1<<20)
	has(t, tx(long), rep("&lt;x", 1<<20))
	has(t, at(el(long), plain(long, long)), "<"+long+" "+long+`="`+rep("&lt;x", 1<<20)+`"></`+long+">")
}

// normal is some trees without keys and static attributes, their empty texts left out, those beside each other made one.
func normal(l []api.Tree) (out []api.Tree) {
	for _, x := range l {
		last := len(out) - 1
		switch {
		case x.Tag == "" && x.Text == "":
		case x.Tag == "" && last >= 0 && out[last].Tag == "":
			out[last].Text += x.Text
		case x.Tag == "":
			out = append(out, tx(x.Text))
		default:
			attrs := times(len(x.Attrs), func(i int) api.Attr { return plain(x.Attrs[i].Name, x.Attrs[i].Value) })
			out = append(out, api.Tree{Tag: x.Tag, Attrs: attrs, Kids: normal(x.Kids)})
		}
	}
	return out
}

var (
	token     = regexp.MustCompile(`<(/?)([a-z][a-z0-9-]*)((?: [a-z][a-z0-9-]*="[^"<>]*")*)>|[^<>"]+`)
	attribute = regexp.MustCompile(` ([^=]*)="([^"]*)"`)
	back      = strings.NewReplacer("&amp;", "&", "&lt;", "<", "&gt;", ">", "&quot;", `"`)
)

// read takes HTML back to trees, without the program.
func read(s string) ([]api.Tree, bool) {
	open := []api.Tree{{}}
	for at := 0; at < len(s); {
		m := token.FindStringSubmatchIndex(s[at:])
		if m == nil || m[0] != 0 {
			return nil, false
		}
		piece := s[at : at+m[1]]
		at += m[1]
		top := &open[len(open)-1]
		if m[4] < 0 {
			top.Kids = append(top.Kids, tx(back.Replace(piece)))
			continue
		}
		words := token.FindStringSubmatch(piece)
		x := api.Tree{Tag: words[2]}
		for _, a := range attribute.FindAllStringSubmatch(words[3], -1) {
			x.Attrs = append(x.Attrs, plain(a[1], back.Replace(a[2])))
		}
		switch {
		case words[1] == "/" && (len(open) == 1 || top.Tag != x.Tag || words[3] != ""):
			return nil, false
		case words[1] == "/":
			ended := *top
			open = open[:len(open)-1]
			top = &open[len(open)-1]
			top.Kids = append(top.Kids, ended)
		case x.Tag == "br" || x.Tag == "hr" || x.Tag == "img" || x.Tag == "input":
			top.Kids = append(top.Kids, x)
		default:
			open = append(open, x)
		}
	}
	return open[0].Kids, len(open) == 1
}

// follows holds P9.2 of some trees that may be: what is put is read as they were, but for what the HTML leaves out.
func follows(t *testing.T, l []api.Tree) {
	t.Helper()
	for _, x := range l {
		if !tree.May(x) {
			t.Fatalf("May(%s): false", short(show(x)))
		}
	}
	s := serial.All(l)
	got, ok := read(s)
	if want := normal(l); !ok || showAll(got) != showAll(want) {
		t.Errorf("%s is read as%s, %v, not%s", short(s), short(showAll(got)), ok, short(showAll(want)))
	}
}

// small are all lists of trees that may be, of so many nodes in all, over some few tags, texts, attributes and keys.
func small(nodes int) [][]api.Tree {
	firsts := []api.Tree{
		tx(""), tx("x"), tx("<"), tx("</p>"), el("p"), el("br"), el("b"), key(el("p"), "k"), at(el("p"), plain("a", "")), at(el("p"), static("a", "")),
		at(el("p"), plain("a", "x")), at(el("p"), plain("a", `" b="`)), at(el("p"), plain("a", ""), plain("b", "")), at(el("p"), plain("b", ""), plain("a", "")), at(el("br"), plain("a", "")),
	}
	all := [][][]api.Tree{{nil}}
	for n := 1; n <= nodes; n++ {
		var l [][]api.Tree
		// The first tree, with so many nodes below it, ahead of the others.
		for inside := range n {
			for _, x := range firsts {
				if inside > 0 && (x.Tag == "" || x.Tag == "br") {
					continue
				}
				for _, kids := range all[inside] {
					for _, rest := range all[n-1-inside] {
						l = append(l, append([]api.Tree{with(x, kids...)}, rest...))
					}
				}
			}
		}
		all = append(all, l)
	}
	var l [][]api.Tree
	for _, some := range all {
		l = append(l, some...)
	}
	return l
}

// P9.2: of all lists of few nodes those are put alike that are the same but for what the HTML leaves out.
func TestFollowsSmall(t *testing.T) {
	by, pure := map[string]string{}, map[string]string{}
	for _, l := range small(3) {
		follows(t, l)
		s, as := serial.All(l), showAll(normal(l))
		if s != html(l...) {
			t.Fatalf("All(%s): %s, not %s", showAll(l), s, html(l...))
		}
		if old, ok := by[s]; ok && old != as {
			t.Fatalf("%s is of%s and of%s", s, old, as)
		}
		by[s] = as
		if was := showAll(l); as == was {
			if old, ok := pure[s]; ok {
				t.Fatalf("%s is of%s and of%s", s, old, was)
			}
			pure[s] = was
		}
		if len(l) == 1 {
			has(t, l[0], s)
		}
		if t.Failed() {
			return
		}
	}
	// Enough of those that nothing is left out of.
	if len(pure) < 5000 {
		t.Errorf("only %d of %d", len(pure), len(by))
	}
}

// P9.2: what is left out, and nothing else, makes two that differ be put alike.
func TestAlike(t *testing.T) {
	for _, l := range [][]api.Tree{
		{el("p"), key(el("p"), "k"), el("p", tx("")), key(el("p", tx(""), tx("")), "l")},
		{at(el("p"), plain("a", "1")), at(el("p"), static("a", "1"))},
		{el("p", tx("xy")), el("p", tx("x"), tx("y")), el("p", tx(""), tx("xy")), el("p", tx("x"), tx(""), tx("y"))},
	} {
		for _, x := range l {
			has(t, x, serial.Put(l[0]))
			follows(t, []api.Tree{x})
		}
	}
	differ := []api.Tree{
		tx("x"), tx("y"), tx("p"), tx("<p></p>"), tx("&lt;p&gt;&lt;/p&gt;"), tx("<br>"), el("p"), el("b"), el("br"), el("hr"), el("p", tx("x")), el("p", tx("p")), el("p", el("p")), el("p", el("br")), el("p", tx("<br>")),
		el("p", tx("x"), el("b")), el("p", el("b"), tx("x")), el("p", el("b", tx("x"))), el("p", el("b"), el("b")), el("p", el("b", el("b"))), el("p", tx("</p><p>")),
		at(el("p"), plain("a", "")), at(el("p"), plain("b", "")), at(el("p"), plain("a", " ")), at(el("p"), plain("a", "b")), at(el("p"), plain("a", `" b="`)), at(el("p"), plain("a", ""), plain("b", "")),
		at(el("p"), plain("b", ""), plain("a", "")), at(el("p"), plain("a", "&quot;")), at(el("p"), plain("a", `"`)), at(el("p", tx("x")), plain("a", "")), el("pa"), el("p-a"),
	}
	for i, x := range differ {
		follows(t, []api.Tree{x})
		for j, y := range differ {
			if (serial.Put(x) == serial.Put(y)) != (i == j) {
				t.Errorf("Put(%s): %s, as Put(%s)", show(x), serial.Put(x), show(y))
			}
		}
	}
}

// some is a tree that pick chooses; one that may be, if so is asked.
func some(pick func(n int) int, levels int, may bool) api.Tree {
	str := func() string {
		s := ""
		for range pick(8) {
			s += []string{"x", "<", ">", "&", `"`, " ", "amp;", "/", "=", "lt;", "br", "-", ";"}[pick(13)]
		}
		return s[:min(len(s), 60)]
	}
	if !may && pick(4) == 0 {
		return api.Tree{Tag: str(), Text: str(), Key: str(), Attrs: times(pick(3), func(int) api.Attr { return static(str(), str()) }), Kids: times(pick(3), func(int) api.Tree { return tx(str()) })}
	}
	if levels == 0 || pick(3) == 0 {
		return tx(str())
	}
	x := api.Tree{Tag: []string{"p", "b", "br", "img", "div", "h1"}[pick(6)]}
	if pick(3) == 0 {
		x.Key = str()
	}
	for i := range pick(4) {
		x.Attrs = append(x.Attrs, api.Attr{Name: string(rune('d' - i)), Value: str(), Static: pick(2) == 0})
	}
	if !may || x.Tag != "br" && x.Tag != "img" {
		x.Kids = times(pick(5), func(int) api.Tree { return some(pick, levels-1, may) })
	}
	return x
}

// run puts trees, and holds P9.1, P9.2 and R2 of them.
func run(t *testing.T, pick func(n int) int) {
	may := pick(2) == 0
	l := times(pick(5), func(int) api.Tree { return some(pick, 4, may) })
	was := showAll(l)
	hasAll(t, l, html(l...))
	for _, x := range l {
		has(t, x, html(x))
	}
	if may {
		follows(t, l)
	}
	if showAll(l) != was {
		t.Errorf("%s was changed to %s", was, showAll(l))
	}
}

// P9.1, P9.2: many by a fixed seed.
func TestRuns(t *testing.T) {
	r := rand.New(rand.NewSource(9))
	for n := range 4000 {
		if run(t, r.Intn); t.Failed() {
			t.Fatalf("run %d", n)
		}
	}
}

// R2: nothing that is handed in is changed, nor what is behind it in its memory, nor is it kept.
func TestNothingChanged(t *testing.T) {
	kids := []api.Tree{tx("<"), el("br", tx("y")), tx("z")}
	attrs := []api.Attr{plain("b", "<"), static("a", ">"), plain("c", "")}
	whole := []api.Tree{at(el("p", kids[:2]...), attrs[:2]...), tx("behind")}
	was := showAll(whole) + showAll(kids) + fmt.Sprint(attrs)
	first, all := serial.Put(whole[0]), serial.All(whole[:1])
	if got := showAll(whole) + showAll(kids) + fmt.Sprint(attrs); got != was {
		t.Errorf("%s, not %s", got, was)
	}
	const want = `<p b="&lt;" a="&gt;">&lt;<br></p>`
	if first != want || all != want {
		t.Errorf("%s, %s, not %s", first, all, want)
	}
	kids[0], attrs[0], kids[1] = tx("new"), plain("z", "9"), el("hr")
	if first != want || all != want {
		t.Errorf("%s, %s, behind a change of what was handed in", first, all)
	}
	has(t, whole[0], `<p z="9" a="&gt;">new<hr></p>`)
}

// P1: nothing is kept: goroutines may put the same trees at once (go test -race sees it).
func TestAtOnce(t *testing.T) {
	x := at(el("p", tx("<"), el("br"), key(el("b", tx("x")), "k")), static("a", ">"))
	ends := make(chan string)
	for range 4 {
		go func() { ends <- serial.Put(x) + serial.All([]api.Tree{x, x}) }()
	}
	for range 4 {
		if got, want := <-ends, html(x, x, x); got != want {
			t.Errorf("%s, not %s", got, want)
		}
	}
}

// P1: a goal for go test -fuzz; its seeds run in every test. The bytes pick the trees.
func FuzzSerial(f *testing.F) {
	for _, s := range []string{
		"", "\x00", "\x01", "\x00\x04", "\x01\x04\x00\x03\x01\x02", "\x00\x01\x01\x02\x03\x01\x00\x01\x02\x03\x00\x02\x01", "\x01\x02" + rep("\x01\x02\x03\x04\x05\x06\x07", 20), "\x00\x04" + rep("\x02\x01\x00\x03\x01\x04", 30),
	} {
		f.Add([]byte(s))
	}
	f.Fuzz(func(t *testing.T, in []byte) {
		if len(in) > 2000 {
			return
		}
		run(t, func(n int) int {
			if len(in) == 0 {
				return 0
			}
			x := int(in[0]) % n
			in = in[1:]
			return x
		})
	})
}
