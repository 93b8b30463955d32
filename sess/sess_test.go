package sess_test

import (
	"bytes"
	"fmt"
	"math"
	"math/rand"
	"slices"
	"strconv"
	"strings"
	"sync"
	"testing"

	"placket/api"
	"placket/bound"
	"placket/code"
	"placket/denote"
	"placket/dom"
	"placket/mut"
	"placket/parse"
	"placket/patch"
	"placket/path"
	"placket/serial"
	"placket/sess"
	"placket/tree"
	"placket/wish"
)

// The kinds of steps by their numbers, as the chapter tells them.
const (
	load  = 1
	inner = 2
	outer = 3
	focus = 4
	note  = 5
	html  = 6
	find  = 7
)

// The errors by their numbers, as the document tells them.
const (
	errArg   = 1
	errNone  = 2
	errKind  = 3
	errRoot  = 4
	errFull  = 6
	errForm  = 7
	errOpen  = 8
	errAttr  = 9
	errKey   = 10
	errSkip  = 11
	errDepth = 12
	errLarge = 13
)

// The ops by their numbers.
const (
	open     = 1
	closes   = 2
	void     = 3
	text     = 4
	dynamic  = 5
	static   = 6
	skip     = 7
	skipNode = 8
)

func isVoid(tag string) bool { return slices.Contains([]string{"br", "hr", "img", "input"}, tag) }

// program are the instructions that words tell, whether they may be a program or not: p, or p#k, an Open, / a Close; br, or br#k, a Void; 'x a Text; a=1 a Dynamic, a:1 a Static; * a Skip; _ a SkipNode.
func program(s string) []api.Ins {
	var l []api.Ins
	for _, word := range strings.Fields(s) {
		l = append(l, instruction(word))
	}
	return l
}

func instruction(word string) api.Ins {
	if op, ok := map[string]int{"/": closes, "*": skip, "_": skipNode}[word]; ok {
		return api.Ins{Op: op}
	}
	if word[0] == '\'' {
		return api.Ins{Op: text, A: word[1:]}
	}
	if a, b, ok := strings.Cut(word, "="); ok {
		return api.Ins{Op: dynamic, A: a, B: b}
	}
	if a, b, ok := strings.Cut(word, ":"); ok {
		return api.Ins{Op: static, A: a, B: b}
	}
	tag, key, _ := strings.Cut(word, "#")
	if isVoid(tag) {
		return api.Ins{Op: void, A: tag, B: key}
	}
	return api.Ins{Op: open, A: tag, B: key}
}

// inBytes are instructions as bytes, whether they may be or not.
func inBytes(l []api.Ins) []byte {
	var b []byte
	put := func(s string) { b = append(append(b, byte(len(s))), s...) }
	for _, i := range l {
		b = append(b, byte(i.Op))
		switch i.Op {
		case open, void, dynamic, static:
			put(i.A)
			put(i.B)
		case text:
			put(i.A)
		}
	}
	return b
}

// prog are the bytes of a program that words tell.
func prog(s string) []byte { return inBytes(program(s)) }

// recs are changes that are told by words, with ; between them: make 5 p#k, make 5 'x, put 5 1 0, attrs 5 a=1 b:2, data 5 'x, gone 5.
func recs(s string) []api.Rec {
	var l []api.Rec
	for _, told := range strings.Split(s, ";") {
		f := strings.Fields(told)
		if len(f) == 0 {
			continue
		}
		r := api.Rec{Op: 1 + slices.Index([]string{"make", "put", "gone", "attrs", "data"}, f[0]), Id: number(f[1])}
		switch f[0] {
		case "put":
			r.Parent, r.Before = number(f[2]), number(f[3])
		case "attrs":
			for _, i := range program(strings.Join(f[2:], " ")) {
				r.Attrs = append(r.Attrs, api.Attr{Name: i.A, Value: i.B, Static: i.Op == static})
			}
		case "make", "data":
			if i := instruction(f[2]); i.Op == text {
				r.Text = i.A
			} else {
				r.Tag, r.Key = i.A, i.B
			}
		}
		l = append(l, r)
	}
	return l
}

func number(s string) int {
	n, err := strconv.Atoi(s)
	if err != nil {
		panic(s)
	}
	return n
}

// telling tells changes with all their fields.
func telling(l []api.Rec) string {
	var s strings.Builder
	for _, r := range l {
		fmt.Fprintf(&s, "\n%d %d %d %d %q %q %q", r.Op, r.Id, r.Parent, r.Before, r.Tag, r.Text, r.Key)
		for _, a := range r.Attrs {
			fmt.Fprintf(&s, " %q=%q %v", a.Name, a.Value, a.Static)
		}
	}
	return s.String()
}

// all tells all that a document tells.
func all(d *dom.Doc) string {
	var s strings.Builder
	fmt.Fprint(&s, d.Ids(), d.Next(), d.Free(), d.Focus())
	for _, id := range d.Ids() {
		n, _ := d.Node(id)
		fmt.Fprintf(&s, "\n%d %d %q %q %q %v %v %d", n.Id, n.Parent, n.Tag, n.Text, n.Key, n.Attrs, n.Kids, n.Note)
	}
	return s.String()
}

// saying tells a step, shortly.
func saying(x sess.Step) string {
	s := fmt.Sprintf("%d of %d, %d, %q, %q, %v", x.Kind, x.Id, x.N, x.Text, x.Bytes, x.Places)
	return s[:min(len(s), 1000)]
}

// far are numbers that are no identities, kinds, rooms or places that there are, though the low bits of some are.
var far = []int{-1, -2, 201, 202, 255, 256, 257, 1 << 16, 1 << 32, 1<<32 + 1, 1<<32 + 2, -1<<32 + 2, 1 << 63 >> 1, math.MaxInt, math.MinInt, math.MinInt + 1}

func session(t *testing.T, room int, l ...sess.Step) *sess.Session {
	t.Helper()
	s, err := sess.New(room)
	if err != nil {
		t.Fatal(room, err)
	}
	for _, x := range l {
		if r := s.Do(x); r.Code != 0 {
			t.Fatal(saying(x), r)
		}
	}
	return s
}

// held does a step, and holds its result, the changes, and the document, against what is told; what else is changed, after is to do.
func held(t *testing.T, s *sess.Session, x sess.Step, told sess.Res, changes []api.Rec, after func(d *dom.Doc)) {
	t.Helper()
	want := s.Doc()
	was := all(want)
	if err := mut.Replay(want, changes); err != nil {
		t.Fatalf("%s: %s can't be done: %v", saying(x), telling(changes), err)
	}
	if after != nil {
		after(want)
	}
	given := sess.Step{Kind: x.Kind, Id: x.Id, N: x.N, Text: x.Text, Bytes: bytes.Clone(x.Bytes), Places: slices.Clone(x.Places)}
	told.Changes = len(changes)
	if got := s.Do(x); got != told {
		t.Errorf("%s of %s: %v, not %v", saying(x), was, got, told)
	}
	if got := telling(s.Last()); got != telling(changes) {
		t.Errorf("%s of %s:%s\nnot%s", saying(x), was, got, telling(changes))
	}
	if got := all(s.Doc()); got != all(want) {
		t.Errorf("%s of %s: %s\nnot %s", saying(x), was, got, all(want))
	}
	if !bytes.Equal(x.Bytes, given.Bytes) || !slices.Equal(x.Places, given.Places) {
		t.Errorf("%s: what was handed in is changed: %s", saying(given), saying(x))
	}
}

// refused holds that a step has an error, tells nothing else, and changes nothing.
func refused(t *testing.T, s *sess.Session, x sess.Step, number int) {
	t.Helper()
	held(t, s, x, sess.Res{Code: number}, nil, nil)
}

// P21.1: the chapter's example.
func TestExample(t *testing.T) {
	s := session(t, 3)
	held(t, s, sess.Step{Kind: 1, Text: "<p>a</p>"}, sess.Res{}, recs("make 2 p; put 2 1 0; make 3 'a; put 3 2 0"), nil)
	held(t, s, sess.Step{Kind: 6, Id: 1}, sess.Res{Text: "<root><p>a</p></root>"}, nil, nil)
}

// P21.1: each room, and what a new session is.
func TestNew(t *testing.T) {
	for _, room := range append([]int{0, -200, 201, 1000}, far...) {
		if s, err := sess.New(room); s != nil || err != api.ErrArg {
			t.Errorf("New(%d): %v, %v", room, s, err)
		}
	}
	for room := 1; room <= 200; room++ {
		s := session(t, room)
		d, err := dom.New(room)
		if err != nil {
			t.Fatal(err)
		}
		if all(s.Doc()) != all(d) || s.Doc().Free() != room-1 || len(s.Last()) > 0 {
			t.Errorf("New(%d): %s, %v", room, all(s.Doc()), s.Last())
		}
		held(t, s, sess.Step{Kind: html, Id: 1}, sess.Res{Text: "<root></root>"}, nil, nil)
		held(t, s, sess.Step{Kind: load, Text: strings.Repeat("<br>", room-1)}, sess.Res{}, brs(2, room-1), nil)
		refused(t, session(t, room), sess.Step{Kind: load, Text: strings.Repeat("<br>", room)}, errFull)
	}
}

// brs are the changes that build so many br below the root.
func brs(first, n int) []api.Rec {
	var l []api.Rec
	for id := first; id < first+n; id++ {
		l = append(l, api.Rec{Op: 1, Id: id, Tag: "br"}, api.Rec{Op: 2, Id: id, Parent: 1})
	}
	return l
}

// P21.1: what is loaded, one HTML behind the other, by hand.
func TestLoad(t *testing.T) {
	s := session(t, 9)
	for _, c := range []struct{ text, told string }{
		{"", ""},
		{"a", "make 2 'a; put 2 1 0"},
		{"", "gone 2"},
		{"", ""},
		{"<p></p>", "make 3 p; put 3 1 0"},
		{"<p></p>", "gone 3; make 4 p; put 4 1 0"},
		{"<p>a<br>b</p>c<q><r>d</r></q>", "gone 4; make 5 p; put 5 1 0; make 6 'a; put 6 5 0; make 7 br; put 7 5 0; make 8 'b; put 8 5 0; make 9 'c; put 9 1 0; make 10 q; put 10 1 0; make 11 r; put 11 10 0; make 12 'd; put 12 11 0"},
		{`x<p b="1" a="&lt;&gt;&amp;&quot;"><img c=""></p>&amp;amp`, `gone 5; gone 9; gone 10; make 13 'x; put 13 1 0; make 14 p; put 14 1 0; attrs 14 b=1 a=<>&"; make 15 img; put 15 14 0; attrs 15 c=; make 16 '&amp; put 16 1 0`},
		{"<root><root></root></root>", "gone 13; gone 14; gone 16; make 17 root; put 17 1 0; make 18 root; put 18 17 0"},
	} {
		held(t, s, sess.Step{Kind: load, Text: c.text}, sess.Res{}, recs(c.told), nil)
		held(t, s, sess.Step{Kind: html, Id: 1}, sess.Res{Text: "<root>" + c.text + "</root>"}, nil, nil)
	}
}

// P21.1: what patches made goes like all other nodes: with keys, static attributes, and what is below.
func TestLoadBehindPatches(t *testing.T) {
	s := session(t, 9, sess.Step{Kind: load, Text: "a<p>b</p>"}, sess.Step{Kind: inner, Id: 1, Bytes: prog("p#k a:1 'x q#k / / _ p#l 'y /")})
	held(t, s, sess.Step{Kind: load, Text: "<p>c</p>"}, sess.Res{}, recs("gone 5; gone 2; gone 8; make 10 p; put 10 1 0; make 11 'c; put 11 10 0"), nil)
	held(t, s, sess.Step{Kind: html, Id: 10}, sess.Res{Text: "<p>c</p>"}, nil, nil)
}

// P21.1: once its nodes are gone the focus is none; the root stays it, with its note.
func TestLoadFocus(t *testing.T) {
	for id := range 6 {
		s := session(t, 9, sess.Step{Kind: load, Text: "<p>a<q>b</q></p>"}, sess.Step{Kind: focus, Id: id}, sess.Step{Kind: note, Id: 1, N: 7}, sess.Step{Kind: note, Id: 2, N: 8})
		held(t, s, sess.Step{Kind: load, Text: "c"}, sess.Res{}, recs("gone 2; make 6 'c; put 6 1 0"), nil)
		d := s.Doc()
		if n, _ := d.Node(1); n.Note != 7 || d.Focus() == 1 != (id == 1) || d.Focus() > 1 {
			t.Errorf("%d: %s", id, all(d))
		}
	}
}

// P21.1: the errors of a load, each ahead of the next one, and that nothing is changed.
func TestLoadErrors(t *testing.T) {
	x60 := strings.Repeat("x", 60)
	for _, c := range []struct {
		text   string
		number int
	}{
		{strings.Repeat("<br>", 1500), errFull},
		{strings.Repeat("<br>", 1500) + "x", errLarge},
		{strings.Repeat("x", 6000), errForm},
		{strings.Repeat("x", 6001), errLarge},
		{strings.Repeat("<br>", 1499) + "<br", errForm},
		{"<p>", errForm},
		{"<p></p", errForm},
		{"</p>", errForm},
		{"<br></br>", errForm},
		{"<p a=1></p>", errForm},
		{`<p a="1" a="1"></p>`, errForm},
		{"<P></P>", errForm},
		{"a&b", errForm},
		{"a>b", errForm},
		{"a\n", errForm},
		{"\x00", errForm},
		{"é", errForm},
		{x60 + "x", errForm},
		{x60 + "<br>x<br>" + x60 + "x", errForm},
		{strings.Repeat("<p>", 201) + strings.Repeat("</p>", 201), errForm},
		{strings.Repeat("<p>", 200) + strings.Repeat("</p>", 200), errFull},
		{"abc<p>d</p>e<br><br>", errFull},
		{strings.Repeat("<br>", 6), errFull},
		{"<p><p><p><p><p><p></p></p></p></p></p></p>", errFull},
		{"<br><br><br><br><br><br", errForm},
	} {
		for _, l := range [][]sess.Step{
			nil,
			{{Kind: load, Text: "<p>a</p>b"}, {Kind: focus, Id: 3}, {Kind: note, Id: 3, N: -1}},
			{{Kind: load, Text: "<p>a</p>bc"}, {Kind: inner, Id: 1, Bytes: prog("p#k a:1 * / _ 'x")}},
		} {
			refused(t, session(t, 6, l...), sess.Step{Kind: load, Text: c.text}, c.number)
		}
	}
}

// P21.1: there is room for so many as there may be beside the root, whatever is there now, and however deep it stands.
func TestLoadFull(t *testing.T) {
	olds := []string{"", "a", "a<br>b", "<p>a</p>", "<p><p><p>a</p></p></p>", "<p>a<br></p><q>b</q>"}
	for _, old := range olds {
		for room := 7; room <= 12; room++ {
			for n := range 14 {
				s := session(t, room, sess.Step{Kind: load, Text: old})
				deep := strings.Repeat("<p>", n/2) + strings.Repeat("</p>", n/2) + strings.Repeat("<br>", n-n/2)
				for _, text := range []string{strings.Repeat("<br>", n), deep} {
					x := sess.Step{Kind: load, Text: text}
					if n >= room {
						refused(t, s, x, errFull)
						continue
					}
					if r := s.Do(x); r.Code != 0 || s.Doc().Free() != room-1-n {
						t.Errorf("%s behind %s, of room %d: %v, %s", text, old, room, r, all(s.Doc()))
					}
				}
			}
		}
	}
}

// P21.1: patches, by hand: of which node, by what, their number, or their changes.
func TestPatches(t *testing.T) {
	for _, c := range []struct {
		kind, id int
		b        []byte
		number   int
		told     string
	}{
		{inner, 1, nil, 0, "gone 2; gone 4; gone 5"},
		{inner, 1, prog("'x"), 0, "make 6 'x; put 6 1 2; gone 2; gone 4; gone 5"},
		{inner, 1, prog("p 'x / *"), 0, "data 3 'x"},
		{inner, 1, prog("_ _ _"), 0, ""},
		{inner, 1, prog("*"), 0, ""},
		{inner, 2, nil, 0, "gone 3"},
		{inner, 2, prog("'a br#k a=1 b:2"), 0, "make 6 br#k; put 6 2 0; attrs 6 b:2 a=1"},
		{inner, 2, prog("'a 'b 'c 'd 'e"), 0, "make 6 'b; put 6 2 0; make 7 'c; put 7 2 0; make 8 'd; put 8 2 0; make 9 'e; put 9 2 0"},
		{outer, 2, nil, 0, "gone 2"},
		{outer, 2, prog("p a=1 b:2 'b /"), 0, "attrs 2 a=1; data 3 'b"},
		{outer, 2, prog("q 'a /"), 0, "make 6 q; put 6 1 2; make 7 'a; put 7 6 0; gone 2"},
		{outer, 2, prog("_"), 0, ""},
		{outer, 2, prog("p 'x p 'x / br /"), 0, "data 3 'x; make 6 p; put 6 2 0; make 7 'x; put 7 6 0; make 8 br; put 8 2 0"},
		{inner, 4, prog("'x"), errKind, ""},
		{outer, 4, prog("'x"), errKind, ""},
		{inner, 5, prog("'x"), errKind, ""},
		{outer, 3, prog("'x"), errKind, ""},
		{outer, 1, prog("'x"), errRoot, ""},
		{outer, 2, prog("'x 'y"), errRoot, ""},
		{inner, 6, prog("'x"), errNone, ""},
		{outer, 0, prog("'x"), errNone, ""},
		{inner, 1, prog("p 'a 'b 'c / br br"), errFull, ""},
		{outer, 2, prog("p 'a 'b 'c 'd 'e /"), errFull, ""},
		{inner, 1, []byte{0}, errForm, ""},
		{inner, 1, []byte{4, 2, 'a'}, errForm, ""},
		{outer, 2, prog("P /"), errForm, ""},
		{inner, 1, prog("p"), errOpen, ""},
		{outer, 2, prog("/"), errOpen, ""},
		{inner, 1, prog("a=1"), errAttr, ""},
		{inner, 9, prog("p a=1 a:2 /"), errAttr, ""},
		{inner, 1, prog("p#k / q#k /"), errKey, ""},
		{inner, 1, prog("* 'x"), errSkip, ""},
		{outer, 1, prog(strings.Repeat("p ", 9) + strings.Repeat("/ ", 9)), errDepth, ""},
		{inner, 1, prog(strings.Repeat("_ ", 120)), 0, ""},
		{inner, 1, prog(strings.Repeat("_ ", 121)), errLarge, ""},
	} {
		s := session(t, 10, sess.Step{Kind: load, Text: "<p>a</p><br>c"})
		held(t, s, sess.Step{Kind: c.kind, Id: c.id, Bytes: c.b}, sess.Res{Code: c.number}, recs(c.told), nil)
	}
}

// P21.1: a patch keeps the focus, and what it is in.
func TestPatchFocus(t *testing.T) {
	for focused, told := range []string{"put 4 1 2", "put 4 1 2", "put 4 1 2", "put 4 1 2", "put 2 1 0", "put 2 1 0"} {
		// The p of key k is 2, with a text, 3; that of key l is 4, with a text, 5.
		s := session(t, 9, sess.Step{Kind: inner, Id: 1, Bytes: prog("p#k 'a / p#l 'b /")}, sess.Step{Kind: focus, Id: focused})
		held(t, s, sess.Step{Kind: inner, Id: 1, Bytes: prog("p#l _ / p#k _ /")}, sess.Res{}, recs(told), nil)
		if got := s.Doc().Focus(); got != focused {
			t.Errorf("%d: %d", focused, got)
		}
	}
}

// P21.1: the focus, of each node, of none, and of what isn't there.
func TestFocus(t *testing.T) {
	s := session(t, 9, sess.Step{Kind: load, Text: "x<p>a</p><br>"}, sess.Step{Kind: load, Text: "<p>a</p><br>c"})
	for _, id := range []int{6, 7, 8, 9, 0, 1, 7, 0, 0} {
		held(t, s, sess.Step{Kind: focus, Id: id}, sess.Res{}, nil, func(d *dom.Doc) { d.SetFocus(id) })
		if s.Doc().Focus() != id {
			t.Errorf("%d: %d", id, s.Doc().Focus())
		}
		for _, gone := range append([]int{2, 3, 4, 5, 10}, far...) {
			refused(t, s, sess.Step{Kind: focus, Id: gone}, errNone)
		}
	}
}

// P21.1: notes, of each node, and of what isn't there.
func TestNote(t *testing.T) {
	s := session(t, 9, sess.Step{Kind: load, Text: "x"}, sess.Step{Kind: load, Text: "<p>a</p><br>"})
	for _, n := range []int64{1, -1, 0, math.MaxInt64, math.MinInt64, 1 << 33} {
		for _, id := range []int{1, 3, 4, 5} {
			held(t, s, sess.Step{Kind: note, Id: id, N: n}, sess.Res{}, nil, func(d *dom.Doc) { d.Note(id, n) })
			if x, _ := s.Doc().Node(id); x.Note != n {
				t.Errorf("%d: %d, not %d", id, x.Note, n)
			}
		}
		for _, id := range append([]int{0, 2, 6}, far...) {
			refused(t, s, sess.Step{Kind: note, Id: id, N: n}, errNone)
		}
	}
	// A patch keeps the note of what it takes; what is made has none.
	s.Do(sess.Step{Kind: inner, Id: 1, Bytes: prog("br p#k / p 'b /")})
	d := s.Doc()
	if n, _ := d.Node(5); n.Note != 0 {
		t.Error(all(d))
	}
}

// P21.1: the HTML of each node: keys, and which attributes are static, are left out.
func TestHTML(t *testing.T) {
	s := session(t, 9, sess.Step{Kind: inner, Id: 1, Bytes: prog(`p#k a:1 b=<& 'a&b q / br#l c=" / '>`)})
	for id, told := range map[int]string{
		1: `<root><p a="1" b="&lt;&amp;">a&amp;b<q></q><br c="&quot;"></p>&gt;</root>`,
		2: `<p a="1" b="&lt;&amp;">a&amp;b<q></q><br c="&quot;"></p>`,
		3: `a&amp;b`,
		4: `<q></q>`,
		5: `<br c="&quot;">`,
		6: `&gt;`,
	} {
		held(t, s, sess.Step{Kind: html, Id: id}, sess.Res{Text: told}, nil, nil)
	}
	for _, id := range append([]int{0, 7}, far...) {
		refused(t, s, sess.Step{Kind: html, Id: id}, errNone)
	}
	// An empty text is no HTML at all, but is there.
	s = session(t, 9, sess.Step{Kind: inner, Id: 1, Bytes: prog("' 'x '")})
	held(t, s, sess.Step{Kind: html, Id: 2}, sess.Res{}, nil, nil)
	held(t, s, sess.Step{Kind: html, Id: 1}, sess.Res{Text: "<root>x</root>"}, nil, nil)
}

// P21.1: the node at some places.
func TestFind(t *testing.T) {
	s := session(t, 19, sess.Step{Kind: load, Text: "<p>a<br><q>b</q></p>c<r></r>"})
	for _, c := range []struct {
		places []int
		id     int
	}{
		{nil, 1}, {[]int{}, 1},
		{[]int{0}, 2}, {[]int{1}, 7}, {[]int{2}, 8},
		{[]int{0, 0}, 3}, {[]int{0, 1}, 4}, {[]int{0, 2}, 5}, {[]int{0, 2, 0}, 6},
	} {
		held(t, s, sess.Step{Kind: find, Places: c.places}, sess.Res{Id: c.id}, nil, nil)
		for _, place := range append([]int{3, -3}, far...) {
			refused(t, s, sess.Step{Kind: find, Places: append(slices.Clone(c.places), place)}, errNone)
			refused(t, s, sess.Step{Kind: find, Places: append([]int{place}, c.places...)}, errNone)
		}
	}
	for _, places := range [][]int{{0, 0, 0}, {0, 1, 0}, {0, 2, 1}, {0, 2, 0, 0}, {1, 0}, {2, 0}, make([]int, 1<<20)} {
		refused(t, s, sess.Step{Kind: find, Places: places}, errNone)
	}
	// It is of the document as it is now, by the order below each parent.
	held(t, s, sess.Step{Kind: inner, Id: 1, Bytes: prog("'x _ *")}, sess.Res{}, recs("make 9 'x; put 9 1 2"), nil)
	held(t, s, sess.Step{Kind: find, Places: []int{0}}, sess.Res{Id: 9}, nil, nil)
	held(t, s, sess.Step{Kind: find, Places: []int{1, 2, 0}}, sess.Res{Id: 6}, nil, nil)
}

// P21.1: other kinds, whatever else the step has.
func TestOtherKinds(t *testing.T) {
	s := session(t, 9, sess.Step{Kind: load, Text: "<p>a</p>"}, sess.Step{Kind: focus, Id: 3})
	for _, kind := range append([]int{0, 8, 9, 10, 13, -7, 100}, far...) {
		for _, x := range []sess.Step{{}, {Id: 1}, {Id: 2, N: 5, Text: "b", Bytes: prog("'b"), Places: []int{0}}, {Text: strings.Repeat("x", 7000)}} {
			x.Kind = kind
			refused(t, s, x, errArg)
		}
	}
}

// P21.1: what a kind doesn't name isn't looked at.
func TestOtherFields(t *testing.T) {
	whole := sess.Step{Id: -5, N: 1 << 40, Text: strings.Repeat("<", 7000), Bytes: []byte{0, 255}, Places: []int{-1, 5}}
	for _, x := range []sess.Step{{Kind: load, Text: "b<br>"}, {Kind: inner, Id: 1, Bytes: prog("'b br *")}, {Kind: outer, Id: 2, Bytes: prog("'b")}, {Kind: focus, Id: 3}, {Kind: note, Id: 3, N: 9}, {Kind: html, Id: 1}, {Kind: find, Places: []int{0, 0}}} {
		plain, other := session(t, 9, sess.Step{Kind: load, Text: "<p>a</p>"}), session(t, 9, sess.Step{Kind: load, Text: "<p>a</p>"})
		y := whole
		y.Kind = x.Kind
		switch x.Kind {
		case load:
			y.Text = x.Text
		case find:
			y.Places = x.Places
		case inner, outer:
			y.Id, y.Bytes = x.Id, x.Bytes
		case note:
			y.Id, y.N = x.Id, x.N
		default:
			y.Id = x.Id
		}
		a, b := plain.Do(x), other.Do(y)
		if a.Code != 0 || a != b || telling(plain.Last()) != telling(other.Last()) || all(plain.Doc()) != all(other.Doc()) {
			t.Errorf("%s: %v, %s\n%s: %v, %s", saying(x), a, all(plain.Doc()), saying(y), b, all(other.Doc()))
		}
	}
}

// P21.1: the changes are those of the last step alone: none of one that has none, or that failed, whatever was ahead of it.
func TestLast(t *testing.T) {
	change := sess.Step{Kind: inner, Id: 1, Bytes: prog("p a=1 'x / 'y")}
	for _, x := range []sess.Step{
		{Kind: focus, Id: 1}, {Kind: note, Id: 1, N: 3}, {Kind: html, Id: 1}, {Kind: find}, {Kind: inner, Id: 1, Bytes: prog("*")}, {Kind: outer, Id: 2, Bytes: prog("_")},
		{}, {Kind: 8}, {Kind: load, Text: "<"}, {Kind: load, Text: strings.Repeat("x", 6001)}, {Kind: load, Text: strings.Repeat("<br>", 20)},
		{Kind: inner, Bytes: prog("*")}, {Kind: inner, Id: 1, Bytes: []byte{9}}, {Kind: outer, Id: 1}, {Kind: inner, Id: 1, Bytes: prog(strings.Repeat("'x ", 20))},
		{Kind: focus, Id: -1}, {Kind: note}, {Kind: html}, {Kind: find, Places: []int{5}},
	} {
		s := session(t, 12, change)
		told := recs("make 2 p; put 2 1 0; attrs 2 a=1; make 3 'x; put 3 2 0; make 4 'y; put 4 1 0")
		for range 3 {
			// Asking changes nothing.
			s.Doc()
			if got := s.Last(); telling(got) != telling(told) {
				t.Fatalf("%s", telling(got))
			}
		}
		if r := s.Do(x); r.Changes != 0 || len(s.Last()) > 0 {
			t.Errorf("%s: %v, %s", saying(x), r, telling(s.Last()))
		}
		if r := s.Do(change); r != (sess.Res{}) || len(s.Last()) > 0 {
			t.Errorf("%s, done again: %v, %s", saying(x), r, telling(s.Last()))
		}
		held(t, s, sess.Step{Kind: inner, Id: 2}, sess.Res{}, recs("gone 3"), nil)
	}
}

// P21.2: what is told is new memory: what is done to it changes no session, nor does a session change what it told.
func TestTold(t *testing.T) {
	s := session(t, 20, sess.Step{Kind: load, Text: `<p a="1" b="2">x</p>y`}, sess.Step{Kind: focus, Id: 3})
	s.Do(sess.Step{Kind: inner, Id: 1, Bytes: prog("p a=3 c=4 'z /")})
	was, last := all(s.Doc()), telling(s.Last())
	d := s.Doc()
	if err := mut.Replay(d, recs("gone 2; make 5 q; put 5 1 0; attrs 5 e=1")); err != nil {
		t.Fatal(err)
	}
	if err := d.Note(1, 9); err != nil {
		t.Fatal(err)
	}
	if err := d.SetFocus(5); err != nil {
		t.Fatal(err)
	}
	l := s.Last()
	for i := range l {
		for j := range l[i].Attrs {
			l[i].Attrs[j] = api.Attr{Name: "z", Value: "z", Static: true}
		}
		l[i] = api.Rec{Op: 9}
	}
	if all(s.Doc()) != was || telling(s.Last()) != last {
		t.Errorf("%s%s\nnot %s%s", all(s.Doc()), telling(s.Last()), was, last)
	}
	told, changes := s.Doc(), s.Last()
	for _, x := range []sess.Step{{Kind: note, Id: 2, N: 3}, {Kind: focus, Id: 1}, {Kind: inner, Id: 1, Bytes: prog("p a=5 'w q / / br")}, {Kind: load, Text: "u"}, {Kind: find, Places: []int{0}}} {
		if r := s.Do(x); r.Code != 0 {
			t.Fatal(r)
		}
		if all(told) != was || telling(changes) != last {
			t.Fatalf("%s changes what was told: %s%s", saying(x), all(told), telling(changes))
		}
	}
}

// P21.2: what was handed in isn't kept: what is written into it later changes nothing; nor is what lies behind its end read, or written.
func TestHandedIn(t *testing.T) {
	b, places := prog("p#k b:2 c=3 'hello q#l d=4 'x / br#m / 'y 'behind"), []int{0, 1, 0, 7}
	end := len(prog("p#k b:2 c=3 'hello q#l d=4 'x / br#m / 'y"))
	s := session(t, 20)
	if r := s.Do(sess.Step{Kind: inner, Id: 1, Bytes: b[:end]}); r != (sess.Res{Changes: 14}) {
		t.Fatal(r)
	}
	if !bytes.Equal(b, prog("p#k b:2 c=3 'hello q#l d=4 'x / br#m / 'y 'behind")) {
		t.Errorf("%q", b)
	}
	now, last := all(s.Doc()), telling(s.Last())
	for i := range b {
		b[i] = 'z'
	}
	if all(s.Doc()) != now || telling(s.Last()) != last {
		t.Errorf("a change of what was handed in changes %s%s", all(s.Doc()), telling(s.Last()))
	}
	if r := s.Do(sess.Step{Kind: find, Places: places[:3]}); r != (sess.Res{Id: 5}) || !slices.Equal(places, []int{0, 1, 0, 7}) {
		t.Error(r, places)
	}
}

// P21.2: sessions have nothing in common.
func TestApart(t *testing.T) {
	a, b := session(t, 5), session(t, 5)
	was := all(b.Doc())
	a.Do(sess.Step{Kind: load, Text: "<p>a</p>"})
	a.Do(sess.Step{Kind: focus, Id: 2})
	if all(b.Doc()) != was || len(b.Last()) > 0 {
		t.Error(all(b.Doc()), b.Last())
	}
	held(t, b, sess.Step{Kind: load, Text: "x"}, sess.Res{}, recs("make 2 'x; put 2 1 0"), nil)
	held(t, a, sess.Step{Kind: html, Id: 1}, sess.Res{Text: "<root><p>a</p></root>"}, nil, nil)
}

// model is a session by the chapter's words, told another way: each step's changes are listed, and then done.
type model struct {
	room int
	doc  *dom.Doc
}

// do is a step's result, and its changes.
func (m *model) do(x sess.Step) (sess.Res, []api.Rec) {
	var r sess.Res
	var l []api.Rec
	n, there := m.doc.Node(x.Id)
	switch x.Kind {
	case load:
		l, r.Code = m.loaded(x.Text)
	case inner, outer:
		run := patch.Inner
		if x.Kind == outer {
			run = patch.Outer
		}
		d := m.doc.Clone()
		log := mut.New(d)
		r.Code = codeOf(run(log, d, x.Id, x.Bytes))
		l = log.All()
	case focus:
		if x.Id != 0 && !there {
			r.Code = errNone
			break
		}
		m.doc.SetFocus(x.Id)
	case note:
		if !there {
			r.Code = errNone
			break
		}
		m.doc.Note(n.Id, x.N)
	case html:
		if !there {
			r.Code = errNone
			break
		}
		r.Text = written(m.doc, x.Id)
	case find:
		at := []int{1}
		for _, place := range x.Places {
			n, _ := m.doc.Node(at[0])
			if at = nil; place >= 0 && place < len(n.Kids) {
				at = n.Kids[place : place+1]
			}
			if at == nil {
				r.Code = errNone
				break
			}
		}
		if at != nil {
			r.Id = at[0]
		}
	default:
		r.Code = errArg
	}
	if err := mut.Replay(m.doc, l); err != nil {
		panic(err)
	}
	r.Changes = len(l)
	return r, l
}

// codeOf is an error's number, of those by hand.
func codeOf(err error) int {
	for i, e := range []error{api.ErrArg, api.ErrNone, api.ErrKind, api.ErrRoot, api.ErrCycle, api.ErrFull, api.ErrForm, api.ErrOpen, api.ErrAttr, api.ErrKey, api.ErrSkip, api.ErrDepth, api.ErrLarge} {
		if err != nil && err == e {
			return i + 1
		}
	}
	return 0
}

// loaded are the changes of a load, or its error's number.
func (m *model) loaded(text string) ([]api.Rec, int) {
	trees, err := parse.Get(text)
	if err != nil {
		return nil, codeOf(err)
	}
	// The root, that stays, has room, too.
	if tree.Count(api.Tree{Tag: "root", Kids: trees}) > m.room {
		return nil, errFull
	}
	var l []api.Rec
	n, _ := m.doc.Node(1)
	for _, id := range n.Kids {
		l = append(l, api.Rec{Op: 3, Id: id})
	}
	next := m.doc.Next()
	var build func(parent int, t api.Tree)
	build = func(parent int, t api.Tree) {
		id := next
		next++
		l = append(l, api.Rec{Op: 1, Id: id, Tag: t.Tag, Text: t.Text}, api.Rec{Op: 2, Id: id, Parent: parent})
		if len(t.Attrs) > 0 {
			l = append(l, api.Rec{Op: 4, Id: id, Attrs: t.Attrs})
		}
		for _, kid := range t.Kids {
			build(id, kid)
		}
	}
	for _, t := range trees {
		build(1, t)
	}
	return l, 0
}

// written is the HTML of a node that is there.
func written(d *dom.Doc, id int) string {
	n, _ := d.Node(id)
	escaped := strings.NewReplacer("&", "&amp;", "<", "&lt;", ">", "&gt;", `"`, "&quot;").Replace
	if n.Tag == "" {
		return escaped(n.Text)
	}
	s := "<" + n.Tag
	for _, a := range n.Attrs {
		s += " " + a.Name + `="` + escaped(a.Value) + `"`
	}
	s += ">"
	if isVoid(n.Tag) {
		return s
	}
	for _, kid := range n.Kids {
		s += written(d, kid)
	}
	return s + "</" + n.Tag + ">"
}

// step does a step of a session and its model, and holds them against each other, and what follows.
func step(t *testing.T, s *sess.Session, m *model, x sess.Step) sess.Res {
	t.Helper()
	was, handed := s.Doc(), [2]string{string(x.Bytes), fmt.Sprint(x.Places)}
	told, changes := m.do(x)
	got, last, now := s.Do(x), s.Last(), s.Doc()
	fail := func(what, got, told string) {
		t.Helper()
		t.Fatalf("%s of %s: %s: %s\nnot %s", saying(x), all(was), what, got, told)
	}
	if got != told {
		fail("result", fmt.Sprint(got), fmt.Sprint(told))
	}
	if telling(last) != telling(changes) {
		fail("changes", telling(last), telling(changes))
	}
	if all(now) != all(m.doc) {
		fail("document", all(now), all(m.doc))
	}
	if got.Code != 0 && (all(now) != all(was) || len(last) > 0 || got != sess.Res{Code: got.Code}) {
		fail("error", all(now), all(was))
	}
	if handed != [2]string{string(x.Bytes), fmt.Sprint(x.Places)} {
		fail("handed in", saying(x), fmt.Sprint(handed))
	}
	if got.Code == 0 {
		follows(fail, s, x, was, now, last)
	}
	return got
}

// follows holds what follows of a step without an error (T2, T5, T6).
func follows(fail func(what, got, told string), s *sess.Session, x sess.Step, was, now *dom.Doc, last []api.Rec) {
	replayed := was.Clone()
	if err := mut.Replay(replayed, last); err != nil || below(replayed, 1) != below(now, 1) {
		fail("replayed", below(replayed, 1), below(now, 1))
	}
	switch x.Kind {
	case load:
		l, _ := parse.Get(x.Text)
		if got, _ := tree.Of(now, 1); !slices.EqualFunc(got.Kids, l, tree.Same) {
			fail("trees", fmt.Sprint(got.Kids), fmt.Sprint(l))
		}
		if got := s.Do(sess.Step{Kind: html, Id: 1}); got != (sess.Res{Text: "<root>" + x.Text + "</root>"}) {
			fail("html", got.Text, x.Text)
		}
	case inner:
		l, err := code.Get(x.Bytes)
		if err != nil {
			fail("bytes", err.Error(), "none")
		}
		want, err := wish.Of(l)
		if err != nil {
			fail("program", err.Error(), "none")
		}
		old, _ := tree.Of(was, x.Id)
		told := old
		told.Kids = denote.Of(want, old.Kids)
		if got, _ := tree.Of(now, x.Id); !tree.Same(got, told) {
			fail("trees", fmt.Sprint(got), fmt.Sprint(told))
		}
		if most := bound.Changes(want, tree.Count(old)-1); len(last) > most {
			fail("bound", fmt.Sprint(len(last)), fmt.Sprint(most))
		}
		if stays(want) || bound.Nodes(want) > now.Free() {
			return
		}
		if got := s.Do(x); got != (sess.Res{}) || all(s.Doc()) != all(now) {
			fail("again", fmt.Sprint(got, all(s.Doc())), all(now))
		}
	}
}

// below tells a node and all below it, but their notes: no change tells these.
func below(d *dom.Doc, id int) string {
	var s strings.Builder
	for _, id := range path.All(d, id) {
		n, _ := d.Node(id)
		fmt.Fprintf(&s, "\n%d %d %q %q %q %v %v", n.Id, n.Parent, n.Tag, n.Text, n.Key, n.Attrs, n.Kids)
	}
	return s.String()
}

// stays tells whether it is wanted somewhere that something stays.
func stays(l []wish.Want) bool {
	return slices.ContainsFunc(l, func(w wish.Want) bool {
		return w.Kind == wish.Node || w.Kind == wish.All || stays(w.Kids)
	})
}

// tags and keys are picked from.
var (
	tags = []string{"p", "p", "p", "q", "br", "q"}
	keys = []string{"", "", "k", "l", "m", ""}
)

func someAttrs(statics bool, pick func(n int) int) []api.Attr {
	var l []api.Attr
	for range []int{0, 0, 1, 2, 3, 10}[pick(6)] {
		a := api.Attr{Name: string(rune('a' + pick(10))), Value: `012&<>" `[pick(8):][:1], Static: statics && pick(2) == 0}
		if !slices.ContainsFunc(l, func(b api.Attr) bool { return a.Name == b.Name }) && len(l) < 8 {
			l = append(l, a)
		}
	}
	return l
}

// someTrees have neither keys nor static attributes, no empty texts, and no two texts beside each other.
func someTrees(depth int, pick func(n int) int) []api.Tree {
	var l []api.Tree
	for range pick(6) {
		if behind := len(l) > 0 && l[len(l)-1].Tag == ""; pick(3) == 0 && !behind {
			l = append(l, api.Tree{Text: string(rune('a'+pick(5))) + []string{"", "&", "<p>", `"`}[pick(4)]})
			continue
		}
		x := api.Tree{Tag: tags[pick(6)], Attrs: someAttrs(false, pick)}
		if depth > 0 && x.Tag != "br" {
			x.Kids = someTrees(depth-1, pick)
		}
		l = append(l, x)
	}
	return l
}

// someHTML is HTML, at times with a fault, or too much.
func someHTML(pick func(n int) int) string {
	s := serial.All(someTrees(1+pick(3), pick))
	switch i := pick(len(s) + 1); pick(16) {
	case 0:
		return s[:i] + string(byte(pick(256))) + s[i:]
	case 1:
		return s[:i]
	case 2:
		return s[i:]
	case 3:
		return strings.Repeat(s+"<br>", 1+pick(60))
	}
	return s
}

// someWants are those of a program, unless there are too many.
func someWants(depth, most int, staying bool, pick func(n int) int) []wish.Want {
	var l []wish.Want
	for range pick(most + 1) {
		w := wish.Want{Kind: []int{wish.Elem, wish.Elem, wish.Elem, wish.Elem, wish.Text, wish.Text, wish.Node, wish.All}[pick(8)]}
		if !staying && w.Kind > wish.Text {
			w.Kind = wish.Text
		}
		switch w.Kind {
		case wish.Text:
			w.Text = strings.Repeat(string(rune('a'+pick(5))), pick(3))
		case wish.Elem:
			w.Tag, w.Key, w.Attrs = tags[pick(6)], keys[pick(6)], someAttrs(true, pick)
			if slices.ContainsFunc(l, func(x wish.Want) bool { return w.Key == x.Key }) {
				w.Key = ""
			}
			if depth > 0 && w.Tag != "br" {
				w.Kids = someWants(depth-1, 6, staying, pick)
			}
		}
		if l = append(l, w); w.Kind == wish.All {
			break
		}
	}
	return l
}

// someBytes are those of a program, at times with a fault, or any.
func someBytes(pick func(n int) int) []byte {
	b := inBytes(wish.Back(someWants(2, []int{1, 1, 3, 6}[pick(4)], pick(2) == 0, pick)))
	switch i := pick(len(b) + 1); pick(12) {
	case 0:
		b = slices.Insert(b, i, byte(pick(9)))
	case 1:
		b = b[:i]
	case 2:
		b = slices.Concat(b[:i], b)
	case 3:
		if i < len(b) {
			b[i] = byte(pick(256))
		}
	}
	return b
}

// someStep is a step of what is there, at times of what isn't.
func someStep(d *dom.Doc, pick func(n int) int) sess.Step {
	x := sess.Step{Kind: []int{load, inner, inner, inner, outer, outer, focus, focus, note, html, find, find, pick(12) - 2}[pick(13)]}
	ids := d.Ids()
	x.Id = ids[pick(len(ids))]
	if pick(8) == 0 {
		x.Id = pick(250) - 10
	}
	switch x.Kind {
	case load:
		x.Text = someHTML(pick)
	case inner, outer:
		x.Bytes = someBytes(pick)
	case note:
		x.N = int64(pick(100)) - 50
	case find:
		for range pick(5) {
			x.Places = append(x.Places, []int{0, 0, 1, 2, pick(8) - 1}[pick(5)])
		}
	}
	return x
}

// chance does some steps, one behind the other, each by what is there.
func chance(t *testing.T, met map[[2]int]int, pick func(n int) int) {
	t.Helper()
	room := []int{1, 5, 20, 40, 100, 200}[pick(6)]
	d, err := dom.New(room)
	if err != nil {
		t.Fatal(err)
	}
	s, m := session(t, room), &model{room, d}
	for range 16 {
		x := someStep(m.doc, pick)
		r := step(t, s, m, x)
		met[[2]int{x.Kind, r.Code}]++
	}
}

// P21.1, P21.2, P21.3: by chance, by a fixed seed.
func TestByChance(t *testing.T) {
	r, met := rand.New(rand.NewSource(21)), map[[2]int]int{}
	for range 3000 {
		chance(t, met, r.Intn)
	}
	for kind, numbers := range map[int][]int{
		load:  {0, errFull, errForm, errLarge},
		inner: {0, errNone, errKind, errFull, errForm, errOpen, errAttr, errKey, errSkip},
		outer: {0, errNone, errKind, errRoot, errFull, errForm, errOpen, errAttr, errKey, errSkip},
		focus: {0, errNone},
		note:  {0, errNone},
		html:  {0, errNone},
		find:  {0, errNone},
		0:     {errArg},
		8:     {errArg},
	} {
		for _, n := range numbers {
			if met[[2]int{kind, n}] < 10 {
				t.Errorf("kind %d, error %d: %d times", kind, n, met[[2]int{kind, n}])
			}
		}
	}
}

// P21.1: all lists of four of some steps, one behind the other.
func TestAllSmall(t *testing.T) {
	steps := []sess.Step{
		{Kind: load, Text: "<p>a</p>"},
		{Kind: load, Text: "b<p><br>c</p>"},
		{Kind: load, Text: "<p>a</p>b<br>c<br>d"},
		{Kind: inner, Id: 1, Bytes: prog("p#k 'x / _ p 'a /")},
		{Kind: inner, Id: 2, Bytes: prog("'y *")},
		{Kind: outer, Id: 2, Bytes: prog("q _ /")},
		{Kind: focus, Id: 3},
		{Kind: note, Id: 2, N: 4},
		{Kind: html, Id: 1},
		{Kind: find, Places: []int{0, 0}},
		{},
	}
	n := len(steps)
	for i := range n * n * n * n {
		d, err := dom.New(7)
		if err != nil {
			t.Fatal(err)
		}
		s, m := session(t, 7), &model{7, d}
		for range 4 {
			step(t, s, m, steps[i%n])
			i /= n
		}
	}
}

// P1: nothing is kept from session to session: goroutines may work on sessions of their own at once (go test -race sees more).
func TestTogether(t *testing.T) {
	run := func() string {
		s, err := sess.New(50)
		if err != nil {
			return err.Error()
		}
		var told strings.Builder
		for _, x := range []sess.Step{{Kind: load, Text: `<p a="1">b</p>c`}, {Kind: focus, Id: 3}, {Kind: inner, Id: 1, Bytes: prog("q / p b=2 'd / *")}, {Kind: note, Id: 2, N: 4}, {Kind: outer, Id: 9}, {Kind: html, Id: 1}, {Kind: find, Places: []int{1}}, {Kind: load, Text: "<"}} {
			fmt.Fprint(&told, s.Do(x), telling(s.Last()), all(s.Doc()))
		}
		return told.String()
	}
	alone := run()
	var together sync.WaitGroup
	for range 6 {
		together.Go(func() {
			for range 50 {
				if got := run(); got != alone {
					t.Errorf("%s\nnot %s", got, alone)
				}
			}
		})
	}
	together.Wait()
}

// P1, P21.1: the widest and deepest documents, again and again: identities rise on.
func TestGreatDocuments(t *testing.T) {
	s := session(t, 200)
	wide, deep := strings.Repeat("<br>", 199), strings.Repeat("<p>", 199)+strings.Repeat("</p>", 199)
	next := 2
	for i := range 100 {
		text, gone := wide, 0
		if i%2 == 1 {
			text, gone = deep, 199
		}
		if i > 0 && i%2 == 0 {
			gone = 1
		}
		if r := s.Do(sess.Step{Kind: load, Text: text}); r != (sess.Res{Changes: 398 + gone}) {
			t.Fatal(i, r)
		}
		if r := s.Do(sess.Step{Kind: html, Id: 1}); r != (sess.Res{Text: "<root>" + text + "</root>"}) {
			t.Fatal(i, r)
		}
		next += 199
		if d := s.Doc(); d.Next() != next || d.Free() != 0 {
			t.Fatal(i, d.Next(), d.Free())
		}
		refused(t, s, sess.Step{Kind: load, Text: text + "x"}, errFull)
		refused(t, s, sess.Step{Kind: inner, Id: 1, Bytes: prog("'x *")}, errFull)
	}
	held(t, s, sess.Step{Kind: find, Places: make([]int, 199)}, sess.Res{Id: next - 1}, nil, nil)
	held(t, s, sess.Step{Kind: focus, Id: next - 1}, sess.Res{}, nil, func(d *dom.Doc) { d.SetFocus(next - 1) })
	held(t, s, sess.Step{Kind: load}, sess.Res{}, []api.Rec{{Op: 3, Id: next - 199}}, nil)
}

// P1: very much that is handed in ends soon.
func TestGreatSteps(t *testing.T) {
	const many = 1 << 24
	s := session(t, 5, sess.Step{Kind: load, Text: "<p>a</p>"})
	for _, c := range []struct {
		x      sess.Step
		number int
	}{
		{sess.Step{Kind: load, Text: strings.Repeat("<", many)}, errLarge},
		{sess.Step{Kind: load, Text: strings.Repeat("<p>", 2000)}, errForm},
		{sess.Step{Kind: load, Text: strings.Repeat("<br>", 1500)}, errFull},
		{sess.Step{Kind: inner, Id: 2, Bytes: make([]byte, many)}, errForm},
		{sess.Step{Kind: inner, Id: 2, Bytes: bytes.Repeat([]byte{2}, many)}, errLarge},
		{sess.Step{Kind: outer, Id: 2, Bytes: bytes.Repeat([]byte{8}, many)}, errLarge},
		{sess.Step{Kind: find, Places: make([]int, many)}, errNone},
		{sess.Step{Kind: 9, Text: strings.Repeat("<", many), Bytes: make([]byte, many), Places: make([]int, many)}, errArg},
	} {
		if got := s.Do(c.x); got != (sess.Res{Code: c.number}) || len(s.Last()) > 0 {
			t.Errorf("kind %d: %v, not %d", c.x.Kind, got, c.number)
		}
	}
}

// P1: a goal for go test -fuzz; its seeds run in every test. Each byte picks something.
func FuzzSess(f *testing.F) {
	for _, s := range []string{"", strings.Repeat("\x05\x01\x02\x00\x03", 60), strings.Repeat("\x03\x01\x00\x02\x04\x01\x05", 90), strings.Repeat("\x02\x02\x01\x03", 200), strings.Repeat("\x04\x05\x06\x02\x01\x01\x00\x03", 100)} {
		f.Add([]byte(s))
	}
	f.Fuzz(func(t *testing.T, b []byte) {
		chance(t, map[[2]int]int{}, func(n int) int {
			if len(b) == 0 {
				return 0
			}
			x := int(b[0]) % n
			b = b[1:]
			return x
		})
	})
}
