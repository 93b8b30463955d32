package walk_test

import (
	"fmt"
	"math"
	"math/rand"
	"slices"
	"strconv"
	"strings"
	"sync"
	"testing"

	"placket/api"
	"placket/bound"
	"placket/denote"
	"placket/dom"
	"placket/match"
	"placket/mut"
	"placket/path"
	"placket/tree"
	"placket/walk"
	"placket/wish"
)

// The kinds of what is wanted, by their numbers, as the document tells them.
const (
	elem  = 1
	words = 2
	next  = 3
	rest  = 4
)

func isVoid(tag string) bool { return slices.Contains([]string{"br", "hr", "img", "input"}, tag) }

// wants are what words want: p, or p#k, an element, that / ends; br, or br#k, a void one; a=1 an attribute of what stands ahead, a:1 a static one; 'x a text; _ that the next node stays; * that all stay.
func wants(s string) []wish.Want {
	places := [][]wish.Want{nil}
	for _, word := range strings.Fields(s) {
		here := &places[len(places)-1]
		switch w, a, isAttr := one(word); {
		case word == "/":
			done := *here
			places = places[:len(places)-1]
			above := places[len(places)-1]
			above[len(above)-1].Kids = done
		case isAttr && len(*here) > 0:
			last := &(*here)[len(*here)-1]
			last.Attrs = append(last.Attrs, a)
		case isAttr:
			above := places[len(places)-2]
			last := &above[len(above)-1]
			last.Attrs = append(last.Attrs, a)
		default:
			*here = append(*here, w)
			if w.Kind == elem && !isVoid(w.Tag) {
				places = append(places, nil)
			}
		}
	}
	if len(places) != 1 {
		panic("something isn't ended: " + s)
	}
	return places[0]
}

// one is what one word wants, or the attribute that it tells.
func one(word string) (wish.Want, api.Attr, bool) {
	switch {
	case word[0] == '\'':
		return wish.Want{Kind: words, Text: word[1:]}, api.Attr{}, false
	case word == "_":
		return wish.Want{Kind: next}, api.Attr{}, false
	case word == "*":
		return wish.Want{Kind: rest}, api.Attr{}, false
	}
	if name, value, ok := strings.Cut(word, "="); ok {
		return wish.Want{}, api.Attr{Name: name, Value: value}, true
	}
	if name, value, ok := strings.Cut(word, ":"); ok {
		return wish.Want{}, api.Attr{Name: name, Value: value, Static: true}, true
	}
	tag, key, _ := strings.Cut(word, "#")
	return wish.Want{Kind: elem, Tag: tag, Key: key}, api.Attr{}, false
}

// grown are the trees that are just as what is wanted, attributes in their order.
func grown(l []wish.Want) []api.Tree {
	var told []api.Tree
	for _, w := range l {
		told = append(told, api.Tree{Tag: w.Tag, Key: w.Key, Text: w.Text, Attrs: slices.Clone(w.Attrs), Kids: grown(w.Kids)})
	}
	return told
}

// recs are changes, told by words, with ; between them: make 5 p#k, make 5 'x, put 5 1 0, attrs 5 a=1 b:2, data 5 'x, gone 5.
func recs(s string) []api.Rec {
	var l []api.Rec
	for _, told := range strings.Split(s, ";") {
		f := strings.Fields(told)
		if len(f) == 0 {
			continue
		}
		r := api.Rec{Op: 1 + slices.Index([]string{"make", "put", "gone", "attrs", "data"}, f[0]), Id: number(f[1])}
		switch f[0] {
		case "put":
			r.Parent, r.Before = number(f[2]), number(f[3])
		case "attrs":
			for _, word := range f[2:] {
				_, a, _ := one(word)
				r.Attrs = append(r.Attrs, a)
			}
		case "make", "data":
			w, _, _ := one(f[2])
			r.Tag, r.Key, r.Text = w.Tag, w.Key, w.Text
		}
		l = append(l, r)
	}
	return l
}

func number(s string) int {
	n, err := strconv.Atoi(s)
	if err != nil {
		panic(s)
	}
	return n
}

// telling tells changes with all their fields.
func telling(l []api.Rec) string {
	var s strings.Builder
	for _, r := range l {
		fmt.Fprintf(&s, "\n%d %d %d %d %q %q %q", r.Op, r.Id, r.Parent, r.Before, r.Tag, r.Text, r.Key)
		for _, a := range r.Attrs {
			fmt.Fprintf(&s, " %q=%q %v", a.Name, a.Value, a.Static)
		}
	}
	return s.String()
}

// all tells all that a document tells.
func all(d *dom.Doc) string {
	var s strings.Builder
	fmt.Fprint(&s, d.Ids(), d.Next(), d.Free(), d.Focus())
	for _, id := range d.Ids() {
		n, _ := d.Node(id)
		fmt.Fprintf(&s, "\n%d %d %q %q %q %v %v %d", n.Id, n.Parent, n.Tag, n.Text, n.Key, n.Attrs, n.Kids, n.Note)
	}
	return s.String()
}

func short(s string) string { return s[:min(len(s), 1500)] }

// below makes a document of some trees below the root, whose identities are 2, 3 and so on, each ahead of what is below it; each one's Note is ten times its identity.
func below(t *testing.T, room int, l []api.Tree) *dom.Doc {
	t.Helper()
	d, err := dom.New(room)
	if err != nil {
		t.Fatal(err)
	}
	log := mut.New(d)
	for _, x := range l {
		if _, err := tree.Build(log, d, 1, 0, x); err != nil {
			t.Fatal(x, err)
		}
	}
	for _, id := range d.Ids() {
		if err := d.Note(id, int64(10*id)); err != nil {
			t.Fatal(err)
		}
	}
	return d
}

// doc is such a document, of words, with much room, and the focus at a node.
func doc(t *testing.T, s string, focus int) *dom.Doc {
	t.Helper()
	d := below(t, 200, grown(wants(s)))
	if err := d.SetFocus(focus); err != nil {
		t.Fatal(err)
	}
	return d
}

func kids(d *dom.Doc, id int) []int {
	n, _ := d.Node(id)
	return n.Kids
}

// ownWants copies all of it, so that no later change is a copy's.
func ownWants(l []wish.Want) []wish.Want {
	var told []wish.Want
	for _, w := range l {
		w.Attrs, w.Kids = slices.Clone(w.Attrs), ownWants(w.Kids)
		told = append(told, w)
	}
	return told
}

// run is a patch, against an error and the changes by hand; the document must be as these make it.
func run(t *testing.T, d *dom.Doc, parent int, ids []int, behind int, want []wish.Want, err error, told []api.Rec) {
	t.Helper()
	what := fmt.Sprintf("Patch(%d, %v, %d, %s), focus %d", parent, ids, behind, short(fmt.Sprint(want)), d.Focus())
	byHand, was, wasWant, wasIds := d.Clone(), all(d), ownWants(want), slices.Clone(ids)
	if err := mut.Replay(byHand, told); err != nil {
		t.Fatalf("%s: %v can't be done: %v", what, told, err)
	}
	log := mut.New(d)
	if got := walk.Patch(log, d, parent, ids, behind, want); !is(got, err) {
		t.Errorf("%s: %v, not %v", what, got, err)
	}
	if got, told := telling(log.All()), telling(told); got != told {
		t.Errorf("%s of %s:%s\nnot%s", what, was, got, told)
	}
	if got, told := all(d), all(byHand); got != told {
		t.Errorf("%s: %s, not %s", what, got, told)
	}
	if !wish.Same(want, wasWant) || !slices.Equal(ids, wasIds) {
		t.Errorf("%s: what was handed in is changed: %v, %v", what, want, ids)
	}
}

// is holds an error against another one: both none, or the same number.
func is(got, want error) bool {
	if got == nil || want == nil {
		return got == nil && want == nil
	}
	return got == want
}

// P19.1: the chapter's example.
func TestExample(t *testing.T) {
	run(t, doc(t, "", 0), 1, nil, 0, wants("'x"), nil, recs("make 2 'x; put 2 1 0"))
}

// cases are patches of all Kids of the root, by hand: the old ones, the focus, what is wanted, and the changes.
var cases = []struct {
	old   string
	focus int
	want  string
	told  string
}{
	{"", 0, "", ""},
	// What is left at the end goes, in order, whatever is below it.
	{"'a p 'b / br", 0, "", "gone 2; gone 3; gone 5"},
	{"'a p 'b / br", 4, "", "gone 2; gone 3; gone 5"},
	{"'a 'b 'c", 0, "'a", "gone 3; gone 4"},
	// It takes the first one that is left: no Put.
	{"'a", 0, "'a", ""},
	{"'a", 0, "'b", "data 2 'b"},
	{"'a 'b", 0, "'b 'a", "data 2 'b; data 3 'a"},
	{"'", 0, "'", ""},
	{"'a", 0, "'", "data 2 '"},
	{"'", 0, "'a", "data 2 'a"},
	{"p /", 0, "p /", ""},
	{"p / p /", 0, "p / p /", ""},
	{"br br", 0, "br br", ""},
	{"p#k / 'a", 0, "p#k / 'a", ""},
	{"p / p#k / 'a", 0, "p / p#k / 'b", "data 4 'b"},
	// Another one that is left: it is put ahead of the first one.
	{"'a p#k /", 0, "p#k / 'a", "put 3 1 2"},
	{"'a 'b p#k / 'c", 0, "p#k / 'a 'b 'c", "put 4 1 2"},
	{"'a 'b p#k / 'c", 0, "'a p#k / 'b 'c", "put 4 1 3"},
	{"p#a / p#b / p#c /", 0, "p#c / p#b / p#a /", "put 4 1 2; put 3 1 2"},
	{"p#a / p#b / p#c /", 0, "p#c / p#a / p#b /", "put 4 1 2"},
	{"p#a / p#b / p#c /", 0, "p#b / p#c / p#a /", "put 3 1 2; put 4 1 2"},
	{"p#a / p#b / p#c / p#d /", 0, "p#d / p#c / p#b / p#a /", "put 5 1 2; put 4 1 2; put 3 1 2"},
	{"p#a / p#b / p#c / p#d /", 0, "p#b / p#d / p#a / p#c /", "put 3 1 2; put 5 1 2"},
	{"br#a br#b", 0, "br#b br#a", "put 3 1 2"},
	{"p#k / p#k /", 0, "p#k /", "gone 3"},
	// One that is left ahead goes at the end, in the order of what is left.
	{"'a p#k / 'b", 0, "p#k /", "put 3 1 2; gone 2; gone 4"},
	{"'a q / p#k / 'b", 0, "p#k / 'c", "put 4 1 2; data 2 'c; gone 3; gone 5"},
	// The focus elsewhere: the same.
	{"'a p#k / 'b", 2, "p#k / 'a 'b", "put 3 1 2"},
	{"'a p#k / 'b", 4, "p#k / 'a 'b", "put 3 1 2"},
	{"'a p#k / 'b", 1, "p#k / 'a 'b", "put 3 1 2"},
	{"'a p#k 'c / 'b", 2, "p#k 'c / 'a 'b", "put 3 1 2"},
	// It is the focus: the others are put ahead of the next one that is left.
	{"'a p#k / 'b", 3, "p#k / 'a 'b", "put 2 1 4"},
	{"'a q / p#k / 'b br", 4, "p#k / 'a q / 'b br", "put 2 1 5; put 3 1 5"},
	{"'a br q / p#k / 'b", 5, "'a p#k / br q / 'b", "put 3 1 6; put 4 1 6"},
	// There is no next one: ahead of nothing, behind all.
	{"'a p#k /", 3, "p#k / 'a", "put 2 1 0"},
	{"'a br p#k /", 4, "p#k / 'a br", "put 2 1 0; put 3 1 0"},
	{"p#a / p#b / p#c /", 4, "p#c / p#b / p#a /", "put 2 1 0; put 3 1 0; put 3 1 2"},
	{"p#a / p#b / p#c /", 3, "p#c / p#b / p#a /", "put 4 1 2; put 2 1 0"},
	// The focus is below it.
	{"'a p#k 'c / 'b", 4, "p#k 'c / 'a 'b", "put 2 1 5"},
	{"'a p#k q r 'c / / / 'b", 6, "p#k q r 'c / / / 'a 'b", "put 2 1 7"},
	{"'a p#k 'c /", 4, "p#k 'c / 'a", "put 2 1 0"},
	{"'a p#k 'c /", 4, "p#k / 'a", "put 2 1 0; gone 4"},
	// The focus is the first one that is left: nothing is put.
	{"p#k / 'a", 2, "p#k / 'a", ""},
	{"p#k 'b / 'a", 3, "p#k 'b / 'a", ""},
	{"'a", 2, "'b", "data 2 'b"},
	// What is ahead of the focus in turn goes at the end, where it stands then.
	{"'a q / p#k / 'b", 4, "p#k /", "put 2 1 5; put 3 1 5; gone 2; gone 3; gone 5"},
	{"'a p#k / 'b", 3, "p#k / 'c 'd", "put 2 1 4; data 2 'c; data 4 'd"},
	// Attributes, joined with those wanted; the same ones are left.
	{"p a:1 b=2 /", 0, "p b=2 /", ""},
	{"p a:1 b=2 /", 0, "p b=3 /", "attrs 2 a:1 b=3"},
	{"p a:1 b=2 /", 0, "p /", "attrs 2 a:1"},
	{"p a:1 /", 0, "p /", ""},
	{"p b=2 /", 0, "p /", "attrs 2"},
	{"p a:1 /", 0, "p a:2 c:3 /", ""},
	{"p a:1 /", 0, "p a=2 /", ""},
	{"p /", 0, "p a=1 b:2 /", "attrs 2 a=1"},
	{"p a=1 b=2 /", 0, "p b=2 a=1 /", "attrs 2 b=2 a=1"},
	{"p a=1 b:2 /", 0, "p a=1 /", "attrs 2 b:2 a=1"},
	{"br a=1", 0, "br a=2", "attrs 2 a=2"},
	{"p a:1 b:2 c:3 d:4 e:5 f:6 g:7 /", 0, "p x=1 y=2 /", "attrs 2 a:1 b:2 c:3 d:4 e:5 f:6 g:7 x=1"},
	{"'a p#k a=1 /", 0, "p#k a=2 /", "put 3 1 2; attrs 3 a=2; gone 2"},
	{"'a p#k a=1 /", 3, "p#k a=2 /", "put 2 1 0; attrs 3 a=2; gone 2"},
	// Then, of an element, its Kids.
	{"p 'a /", 0, "p 'b /", "data 3 'b"},
	{"p 'a /", 0, "p /", "gone 3"},
	{"p /", 0, "p 'a /", "make 3 'a; put 3 2 0"},
	{"p a=1 'b / 'c", 0, "p a=2 'd / 'e", "attrs 2 a=2; data 3 'd; data 4 'e"},
	{"p 'a q#x / q#y / / 'c", 5, "p q#y / 'd / 'e", "put 3 2 0; put 4 2 0; data 3 'd; gone 4; data 6 'e"},
	{"p 'a q#x / q#y / / 'c", 4, "p q#y / 'd / 'e", "put 5 2 3; data 3 'd; gone 4; data 6 'e"},
	{"'z p#k 'a q#x 'b / / p#l / 'c", 6, "p#l / p#k q#x 'd / /", "put 7 1 2; put 2 1 8; put 4 3 0; data 6 'd; gone 4; gone 2; gone 8"},
	// It takes none: an element is made, and put ahead of the first one that is left; then its attributes, and what is in it.
	{"", 0, "p /", "make 2 p; put 2 1 0"},
	{"", 0, "p#k /", "make 2 p#k; put 2 1 0"},
	{"", 0, "br#k a=1 b:2", "make 2 br#k; put 2 1 0; attrs 2 b:2 a=1"},
	{"", 0, "p#k a=1 b:2 'x q / /", "make 2 p#k; put 2 1 0; attrs 2 b:2 a=1; make 3 'x; put 3 2 0; make 4 q; put 4 2 0"},
	{"", 0, "p q r 'x / 'y / 'z / 'u", "make 2 p; put 2 1 0; make 3 q; put 3 2 0; make 4 r; put 4 3 0; make 5 'x; put 5 4 0; make 6 'y; put 6 3 0; make 7 'z; put 7 2 0; make 8 'u; put 8 1 0"},
	{"'a 'b", 0, "p / 'c", "make 4 p; put 4 1 2; data 2 'c; gone 3"},
	{"'a 'b", 3, "p / 'c", "make 4 p; put 4 1 2; data 2 'c; gone 3"},
	{"'a 'b", 0, "'a p / 'c", "make 4 p; put 4 1 3; data 3 'c"},
	{"'a", 0, "'a p /", "make 3 p; put 3 1 0"},
	{"p#k /", 0, "q 'c / p#k /", "make 3 q; put 3 1 2; make 4 'c; put 4 3 0"},
	{"'a q#k /", 0, "q#k / p / 'a", "put 3 1 2; make 4 p; put 4 1 2"},
	{"'a q#k /", 3, "q#k / p / 'a", "put 2 1 0; make 4 p; put 4 1 2"},
	{"p / q /", 0, "q / p /", "make 4 q; put 4 1 2; gone 3"},
	{"p#k /", 0, "p /", "make 3 p; put 3 1 2; gone 2"},
	{"p#k a=1 'b /", 0, "q#k a=1 'b /", "make 4 q#k; put 4 1 2; attrs 4 a=1; make 5 'b; put 5 4 0; gone 2"},
	{"p#k /", 0, "p#l /", "make 3 p#l; put 3 1 2; gone 2"},
	{"p#k /", 0, "p#k / p#l / p#m /", "make 3 p#l; put 3 1 0; make 4 p#m; put 4 1 0"},
	// It takes none: a text is made, and put.
	{"p /", 0, "'a", "make 3 'a; put 3 1 2; gone 2"},
	{"p /", 0, "'a p /", "make 3 'a; put 3 1 2"},
	{"p / 'a", 0, "'b", "make 4 'b; put 4 1 2; gone 2; gone 3"},
	{"", 0, "'a 'a '", "make 2 'a; put 2 1 0; make 3 'a; put 3 1 0; make 4 '; put 4 1 0"},
	// What is left in an element goes ahead of what is done behind that element.
	{"p 'a 'b / 'c", 0, "p / 'd 'e", "gone 3; gone 4; data 5 'd; make 6 'e; put 6 1 0"},
	// One that stays: nothing, whatever it is.
	{"'a", 0, "_", ""},
	{"p#k a=1 'b / 'c", 0, "_", "gone 4"},
	{"'a p#k b=1 / 'c", 0, "p#k b=1 / _ _", "put 3 1 2"},
	{"'a p#k b=1 / 'c", 3, "p#k b=1 / _ _", "put 2 1 4"},
	{"'a 'b", 0, "_ 'c", "data 3 'c"},
	{"'a 'b", 0, "p / _ 'c", "make 4 p; put 4 1 2; data 3 'c"},
	// None is left: nothing.
	{"", 0, "_", ""},
	{"'a", 0, "_ _ _", ""},
	{"'a", 0, "_ _ 'b _", "make 3 'b; put 3 1 0"},
	{"", 0, "p _ /", "make 2 p; put 2 1 0"},
	// That all stay: nothing, and none goes.
	{"", 0, "*", ""},
	{"'a p#k b=1 'c / br", 0, "*", ""},
	{"'a p#k / 'c", 0, "'b *", "data 2 'b"},
	{"'a p#k / 'c", 0, "p#k / *", "put 3 1 2"},
	{"'a p#k / 'c", 3, "p#k / *", "put 2 1 4"},
	{"'a p#k / 'c", 2, "p#k / *", "put 3 1 2"},
	{"p#k / 'c", 0, "q / *", "make 4 q; put 4 1 2"},
	{"", 0, "p * / *", "make 2 p; put 2 1 0"},
	{"p 'a br / q 'b / 'c", 0, "p br * / *", "make 8 br; put 8 2 3"},
	{"p 'a br / q 'b / 'c", 0, "p * / q /", "gone 6; gone 7"},
}

// P19.1: each way by which what is wanted is done, by hand.
func TestByHand(t *testing.T) {
	for _, c := range cases {
		d := doc(t, c.old, c.focus)
		run(t, d, 1, kids(d, 1), 0, wants(c.want), nil, recs(c.told))
	}
}

// P19.1: the same below another parent, with something ahead and something behind that isn't patched, and below those, too.
func TestAmid(t *testing.T) {
	for _, c := range cases {
		focus := c.focus
		if focus > 1 {
			focus += 4
		}
		// 2 to 5 stand ahead: a div, a text in it, the parent, and a text in that; behind the old ones stand four more.
		d := doc(t, "div 'x / div 'a "+c.old+" 'y p#k 'z / / 'x", focus)
		l := kids(d, 4)
		behind := l[len(l)-2]
		other := func(id int) int {
			switch {
			case id == 0:
				return 0
			case id == 1:
				return 4
			case id+4 < behind:
				return id + 4
			}
			return id + 8
		}
		told := recs(c.told)
		for i, r := range told {
			told[i].Id, told[i].Parent, told[i].Before = other(r.Id), other(r.Parent), other(r.Before)
			if r.Op == api.Put && r.Parent == 1 && r.Before == 0 {
				told[i].Before = behind
			}
		}
		run(t, d, 4, l[1:len(l)-2], behind, wants(c.want), nil, told)
	}
}

// P19.1: some of the children alone: the ones ahead and behind aren't looked at, though they would fit.
func TestSome(t *testing.T) {
	const old = "p#a / p#b / p#c / p#d / 'e"
	for _, c := range []struct {
		ids    []int
		behind int
		focus  int
		want   string
		told   string
	}{
		{nil, 0, 0, "", ""},
		{nil, 0, 0, "'x p#a / * _", "make 7 'x; put 7 1 0; make 8 p#a; put 8 1 0"},
		{[]int{}, 2, 0, "p#a / p#b /", "make 7 p#a; put 7 1 2; make 8 p#b; put 8 1 2"},
		{nil, 4, 4, "'x p#d 'y / *", "make 7 'x; put 7 1 4; make 8 p#d; put 8 1 4; make 9 'y; put 9 8 0"},
		{nil, 6, 0, "'x", "make 7 'x; put 7 1 6"},
		{[]int{3}, 4, 0, "p#a / p#b / p#c /", "make 7 p#a; put 7 1 3; make 8 p#c; put 8 1 4"},
		{[]int{3, 4}, 5, 0, "p#c / p#b /", "put 4 1 3"},
		{[]int{3, 4}, 5, 4, "p#c / p#b /", "put 3 1 5"},
		{[]int{3, 4}, 5, 4, "p#c / p#d / p#b /", "put 3 1 5; make 7 p#d; put 7 1 3"},
		{[]int{3, 4}, 5, 0, "p#c / p#d /", "put 4 1 3; make 7 p#d; put 7 1 3; gone 3"},
		{[]int{3, 4}, 5, 0, "p#c / *", "put 4 1 3"},
		{[]int{3, 4}, 5, 0, "* 'x", "make 7 'x; put 7 1 5"},
		{[]int{3, 4}, 5, 0, "_ _ _ 'x", "make 7 'x; put 7 1 5"},
		{[]int{5, 6}, 0, 0, "_ 'x 'y", "data 6 'x; make 7 'y; put 7 1 0"},
		{[]int{2, 3, 4, 5}, 6, 5, "p#d / p#a /", "put 2 1 6; put 3 1 6; put 4 1 6; gone 3; gone 4"},
		{[]int{2, 3, 4, 5}, 6, 4, "p#d / p#c / p#a /", "put 5 1 2; put 2 1 0; put 3 1 0; gone 3"},
		{[]int{2, 3, 4, 5, 6}, 0, 0, "", "gone 2; gone 3; gone 4; gone 5; gone 6"},
		{[]int{4}, 5, 0, "", "gone 4"},
	} {
		d := doc(t, old, c.focus)
		told := recs(c.told)
		for i, r := range told {
			// Ahead of what stands behind all, also if that is told as nothing.
			if r.Op == api.Put && r.Parent == 1 && r.Before == 0 {
				told[i].Before = c.behind
			}
		}
		run(t, d, 1, c.ids, c.behind, wants(c.want), nil, told)
	}
}

// far are identities that no small document has.
var far = []int{-1, -2, 7, 8, 200, 201, 1 << 32, 1<<32 + 1, 1<<32 + 3, -1<<32 + 3, math.MaxInt, math.MaxInt - 1, math.MinInt, math.MinInt + 1}

// refused holds that a patch is ErrArg, and changes nothing.
func refused(t *testing.T, d *dom.Doc, parent int, ids []int, behind int) {
	t.Helper()
	was, log, wasIds := all(d), mut.New(d), slices.Clone(ids)
	for _, s := range []string{"", "_ 'x p#k b=1 * /"} {
		if err := walk.Patch(log, d, parent, ids, behind, wants(s)); !is(err, api.ErrArg) {
			t.Fatalf("Patch(%d, %v, %d, %s): %v", parent, ids, behind, s, err)
		}
	}
	if len(log.All()) > 0 || all(d) != was || !slices.Equal(ids, wasIds) {
		t.Fatalf("Patch(%d, %v, %d): changed to %s, not %s", parent, ids, behind, all(d), was)
	}
}

// P19.1: ErrArg, unless ids are, one behind the other, children of parent that stand just so, with behind, or nothing, just behind them: of all short lists.
func TestStandSo(t *testing.T) {
	// 1: 2 (3, 4), 5 (6); the order is turned: 5, 2 (4, 3).
	d := doc(t, "p 'a 'b / q br /", 3)
	if err := mut.Replay(d, recs("put 2 1 0; put 3 2 0; make 7 p; make 8 'x; put 8 7 0; make 9 'y; gone 9")); err != nil {
		t.Fatal(err)
	}
	rows := map[int][]int{1: {5, 2}, 2: {4, 3}, 5: {6}, 7: {8}}
	ids := []int{0, 1, 2, 3, 4, 5, 6, 7, 8, 9, 10}
	good, bad := 0, 0
	each(ids, 3, func(l []int) {
		for _, parent := range ids {
			for _, behind := range ids {
				row := append(slices.Clone(rows[parent]), 0)
				may := len(l) == 0 && slices.Contains(row, behind)
				for i := range row {
					for j := i + 1; j < len(row); j++ {
						may = may || len(l) > 0 && slices.Equal(l, row[i:j]) && behind == row[j]
					}
				}
				if !may {
					refused(t, d, parent, l, behind)
					bad++
					continue
				}
				good++
				// What all stay, or nothing of none, changes nothing.
				if err := walk.Patch(mut.New(d), d, parent, l, behind, wants("*")); err != nil {
					t.Errorf("Patch(%d, %v, %d, *): %v", parent, l, behind, err)
				}
			}
		}
	})
	// Of no ids: 0 below any parent, and each child; of ids: each run.
	if good != len(ids)+6+3+3+1+1 || bad < 100000 {
		t.Errorf("%d, %d", good, bad)
	}
}

// P19.1: ErrArg: what isn't there at all, and lists of many.
func TestFar(t *testing.T) {
	d := doc(t, "p 'a 'b / q / 'c", 3)
	for _, id := range far {
		refused(t, d, 1, []int{id}, 0)
		refused(t, d, 1, []int{id}, 5)
		refused(t, d, 1, []int{2, id}, 0)
		refused(t, d, 1, []int{2, 5, 6, id}, 0)
		refused(t, d, 1, []int{6}, id)
		refused(t, d, 1, []int{2, 5}, id)
		refused(t, d, 1, nil, id)
		refused(t, d, id, []int{2}, 5)
		refused(t, d, id, []int{id}, id)
		refused(t, d, id, nil, id)
		refused(t, d, id, nil, 2)
		refused(t, d, id, nil, 1)
	}
	for _, n := range []int{4, 200, 1 << 20} {
		refused(t, d, 1, slices.Repeat([]int{2}, n), 5)
		refused(t, d, 1, make([]int, n), 0)
		refused(t, d, 1, append([]int{2, 5, 6}, make([]int, n)...), 0)
	}
	// Each once, none left out, none of another parent, none twice, behind not amid or ahead.
	for _, l := range [][]int{{2, 6}, {5, 2}, {6, 5}, {2, 5, 5}, {2, 2}, {2, 3}, {2, 3, 4, 5, 6}, {1}, {1, 2}, {0}, {0, 2}, {2, 0}, {6, 0}, {3, 4}} {
		for behind := range 8 {
			refused(t, d, 1, l, behind)
		}
	}
	for _, c := range []struct {
		ids    []int
		behind int
	}{{[]int{2}, 0}, {[]int{2}, 6}, {[]int{2}, 2}, {[]int{2}, 1}, {[]int{5}, 2}, {[]int{5}, 0}, {[]int{6}, 2}, {[]int{6}, 1}, {[]int{2, 5}, 0}, {[]int{2, 5, 6}, 2}, {[]int{5, 6}, 2}, {nil, 1}, {nil, 3}} {
		refused(t, d, 1, c.ids, c.behind)
	}
}

// P19.1: ErrArg, if the log or the document is nil, whatever else.
func TestNil(t *testing.T) {
	for _, want := range [][]wish.Want{nil, wants("'x"), wants("*")} {
		d := doc(t, "p /", 0)
		was := all(d)
		for _, c := range []struct {
			l *mut.Log
			d *dom.Doc
		}{{nil, nil}, {nil, d}, {mut.New(d), nil}, {mut.New(nil), nil}} {
			for _, ids := range [][]int{nil, {2}, {3}} {
				if err := walk.Patch(c.l, c.d, 1, ids, 0, want); !is(err, api.ErrArg) {
					t.Errorf("%v, %v, %v: %v", c.l, c.d, ids, err)
				}
			}
		}
		if all(d) != was {
			t.Errorf("changed: %s", all(d))
		}
	}
}

// P19.1: of no ids with nothing behind nothing more is asked: what can't be put is the change's error, and what was done stays.
func TestNoPlace(t *testing.T) {
	d := doc(t, "p / 'a br", 0)
	for _, parent := range []int{0, -1, 6, 99, math.MaxInt, math.MinInt} {
		d := d.Clone()
		run(t, d, parent, nil, 0, nil, nil, nil)
		run(t, d, parent, nil, 0, wants("_ * _"), nil, nil)
		run(t, d, parent, nil, 0, wants("_ 'x p /"), api.ErrNone, recs("make 5 'x"))
	}
	for _, parent := range []int{3, 4} {
		d := d.Clone()
		run(t, d, parent, nil, 0, wants("* _"), nil, nil)
		run(t, d, parent, nil, 0, wants("p#k a=1 'x /"), api.ErrKind, recs("make 5 p#k"))
	}
	// What is nowhere may be a parent, too; what was made last isn't there yet when it is asked.
	if err := mut.Replay(d, recs("make 5 p; make 6 'x; put 6 5 0")); err != nil {
		t.Fatal(err)
	}
	run(t, d, 5, []int{6}, 0, wants("'y q / *"), nil, recs("data 6 'y; make 7 q; put 7 5 0"))
	run(t, d, 8, nil, 0, wants("'y"), api.ErrKind, recs("make 8 'y"))
	run(t, d, 9, nil, 0, wants("p /"), api.ErrCycle, recs("make 9 p"))
}

// P19.1: a change's error, by what no program wants: it is told as it is, and what was done stays; what is behind it isn't done.
func TestErrors(t *testing.T) {
	long := strings.Repeat("x", 61)
	odd := func(s string, change func(w *wish.Want)) []wish.Want {
		l := wants(s)
		change(&l[0])
		return append(l, wants("'z _ 'z")...)
	}
	for _, c := range []struct {
		what string
		want []wish.Want
		err  error
		told string
	}{
		{"a long text, of a text", wants("'" + long), api.ErrArg, ""},
		{"a text that may not be, of a text", odd("'y", func(w *wish.Want) { w.Text = "\n" }), api.ErrArg, ""},
		{"a long text, of none", append(wants("_ _"), odd("'"+long, func(*wish.Want) {})...), api.ErrArg, ""},
		{"a long text, within", odd("q#k 'a '"+long+" /", func(*wish.Want) {}), api.ErrArg, "put 3 1 2; attrs 3; make 6 'a; put 6 3 0"},
		{"a tag that may not be", odd("1p / ", func(*wish.Want) {}), api.ErrArg, ""},
		{"a long tag", odd(long[:13]+" /", func(*wish.Want) {}), api.ErrArg, ""},
		{"a key that may not be", odd("p /", func(w *wish.Want) { w.Key = "\x7f" }), api.ErrArg, ""},
		{"a long key", odd("p#"+long+" /", func(*wish.Want) {}), api.ErrArg, ""},
		{"an attribute of a Name that may not be, of a new one", odd("p 1=1 'x /", func(*wish.Want) {}), api.ErrArg, "make 6 p; put 6 1 2"},
		{"a static one, too", odd("p 1:1 'x /", func(*wish.Want) {}), api.ErrArg, "make 6 p; put 6 1 2"},
		{"nine attributes of a new one", odd("p a=1 b=1 c=1 d=1 e:1 f=1 g=1 h=1 i=1 'x /", func(*wish.Want) {}), api.ErrArg, "make 6 p; put 6 1 2"},
		{"an attribute twice, of a new one", odd("p a=1 b:1 a=1 'x /", func(*wish.Want) {}), api.ErrArg, "make 6 p; put 6 1 2"},
		{"an attribute of a Name that may not be, of one that is taken", odd("q#k 1=1 'x /", func(*wish.Want) {}), api.ErrArg, "put 3 1 2"},
		{"a Value that may not be", odd("q#k a=1 'x /", func(w *wish.Want) { w.Attrs[0].Value = long }), api.ErrArg, "put 3 1 2"},
		// A static one isn't laid on what is taken; of a Name twice only the first one is.
		{"a static one that isn't laid", odd("q#k 1:1 b=2 b=3 'x /", func(w *wish.Want) { w.Kids[0].Text = "\n" }), api.ErrArg, "put 3 1 2; attrs 3 b=2"},
		{"something in a new void one", odd("br", func(w *wish.Want) { w.Kids = wants("p / 'x") }), api.ErrKind, "make 6 br; put 6 1 2; make 7 p"},
		{"something in a void one that is taken", append(wants("_ q#k /"), odd("br#v", func(w *wish.Want) { w.Kids = wants("_ * 'x") })...), api.ErrKind, "attrs 3; put 5 1 4; make 6 'x"},
		{"an element of no tag, with a key", odd("p#k /", func(w *wish.Want) { w.Tag = "" }), api.ErrArg, ""},
		{"an element of no tag, with attributes", odd("p a=1 /", func(w *wish.Want) { w.Tag = "" }), api.ErrKind, "make 6 '; put 6 1 2"},
		{"an element of no tag, with something in it", odd("p q / /", func(w *wish.Want) { w.Tag = "" }), api.ErrKind, "make 6 '; put 6 1 2; make 7 q"},
	} {
		t.Run(c.what, func(t *testing.T) {
			d := doc(t, "'a q#k a=1 / 'b br#v", 0)
			run(t, d, 1, []int{2, 3, 4, 5}, 0, c.want, c.err, recs(c.told))
		})
	}
}

// P19.1, P1: what no program wants, but can be done: kinds that there aren't are nothing; of each kind only what it names counts.
func TestOdd(t *testing.T) {
	full := func(kind int) []wish.Want {
		return []wish.Want{{Kind: kind, Tag: "p", Key: "k", Text: "x", Attrs: []api.Attr{{Name: "a", Value: "1"}}, Kids: wants("'y")}}
	}
	for _, kind := range []int{0, 5, 6, -1, -2, -3, -4, 257, 1 << 32, 1<<32 + 1, 1<<32 + 4, math.MaxInt, math.MinInt} {
		run(t, doc(t, "'a p#k /", 3), 1, []int{2, 3}, 0, full(kind), nil, recs("gone 2; gone 3"))
		run(t, doc(t, "'a p#k /", 3), 1, []int{2, 3}, 0, slices.Concat(full(kind), wants("p#k /"), full(kind), wants("*")), nil, recs("put 2 1 0"))
	}
	// An element that is made has no text; a text is nothing but its text.
	run(t, doc(t, "", 0), 1, nil, 0, full(elem), nil, recs("make 2 p#k; put 2 1 0; attrs 2 a=1; make 3 'y; put 3 2 0"))
	run(t, doc(t, "p#k /", 0), 1, []int{2}, 0, full(elem), nil, recs("attrs 2 a=1; make 3 'y; put 3 2 0"))
	run(t, doc(t, "", 0), 1, nil, 0, full(words), nil, recs("make 2 'x; put 2 1 0"))
	run(t, doc(t, "'a", 0), 1, []int{2}, 0, full(words), nil, recs("data 2 'x"))
	run(t, doc(t, "'a p#k /", 3), 1, []int{2, 3}, 0, append(full(next), full(next)...), nil, nil)
	run(t, doc(t, "", 0), 1, nil, 0, append(full(next), full(rest)...), nil, nil)
	run(t, doc(t, "'a p#k /", 3), 1, []int{2, 3}, 0, full(rest), nil, nil)
	// An element of no tag is a text, once it is made, and takes none.
	run(t, doc(t, "'a", 0), 1, []int{2}, 0, []wish.Want{{Kind: elem}}, nil, recs("make 3 '; put 3 1 2; gone 2"))
	// The same key twice, also of old ones, and things behind that all stay.
	run(t, doc(t, "'a p#k / 'b p#k /", 5), 1, []int{2, 3, 4, 5}, 0, wants("p#k / p#k / p#k / *"), nil, recs("put 3 1 2; put 2 1 0; put 4 1 0; make 6 p#k; put 6 1 2"))
	run(t, doc(t, "'a p#k /", 0), 1, []int{2, 3}, 0, wants("* p#k / _ 'x *"), nil, recs("make 4 p#k; put 4 1 0; make 5 'x; put 5 1 0"))
	run(t, doc(t, "", 0), 1, []int{}, 0, []wish.Want{}, nil, nil)
}

// P19.1: where there is no room: the first Make that has none is ErrFull, and what was done stays, in each room.
func TestFull(t *testing.T) {
	for room := 7; room <= 12; room++ {
		d := below(t, room, grown(wants("'a p#k 'b / q / 'c")))
		if err := d.SetFocus(4); err != nil {
			t.Fatal(err)
		}
		told := recs("put 2 1 5; data 4 'd; make 7 'e; put 7 3 0; make 8 r; put 8 1 2; attrs 8 a=1; make 9 's; put 9 8 0; data 2 'f; make 10 br; put 10 1 5; make 11 br; put 11 1 5; gone 5; gone 6")
		// By how many changes each room is used up: 6 nodes were there.
		done := map[int]int{7: 4, 8: 7, 9: 10, 10: 12, 11: 16, 12: 16}[room]
		var err error
		if room < 11 {
			err = api.ErrFull
		}
		run(t, d, 1, []int{2, 3, 5, 6}, 0, wants("p#k 'd 'e / r a=1 's / 'f br br"), err, told[:done])
	}
	// What goes at the end gives no room ahead of it; what has gone below it does.
	d := below(t, 3, grown(wants("p 'a /")))
	run(t, d.Clone(), 1, []int{2}, 0, wants("q /"), api.ErrFull, nil)
	run(t, d.Clone(), 1, []int{2}, 0, wants("p br /"), api.ErrFull, nil)
	run(t, d.Clone(), 1, []int{2}, 0, wants("p / br"), nil, recs("gone 3; make 4 br; put 4 1 0"))
	run(t, d.Clone(), 1, []int{2}, 0, wants("p / br br"), api.ErrFull, recs("gone 3; make 4 br; put 4 1 0"))
}

// each calls do with all lists of up to n of l.
func each[T any](l []T, n int, do func([]T)) {
	lists := [][]T{nil}
	for ; n >= 0; n-- {
		var longer [][]T
		for _, x := range lists {
			do(x)
			for _, y := range l {
				longer = append(longer, append(slices.Clip(x), y))
			}
		}
		lists = longer
	}
}

// plain is a patch by the words of chapters 16 and 19, told another way: what is left is read off the document, each time anew.
type plain struct {
	d    *dom.Doc
	done []api.Rec
	err  error
}

// do does a change, unless one ahead of it failed.
func (p *plain) do(r api.Rec) {
	if p.err != nil {
		return
	}
	if p.err = p.d.Apply(r); p.err == nil {
		r.Attrs = slices.Clone(r.Attrs)
		p.done = append(p.done, r)
	}
}

func (p *plain) patch(parent int, ids []int, behind int, want []wish.Want) {
	open := map[int]bool{}
	for _, id := range ids {
		open[id] = true
	}
	left := func() []int { return slices.DeleteFunc(kids(p.d, parent), func(id int) bool { return !open[id] }) }
	for _, w := range want {
		if p.err != nil {
			return
		}
		// Behind all stands what is behind.
		row := append(left(), behind)
		at := p.taken(w, row[:len(row)-1])
		switch {
		case w.Kind == rest:
			clear(open)
		case at >= 0:
			p.bring(parent, row, at)
			delete(open, row[at])
			p.fit(row[at], w)
		case w.Kind == words:
			p.lay(api.Rec{Op: api.Make, Id: p.d.Next(), Text: w.Text}, parent, row[0])
		case w.Kind == elem:
			id := p.d.Next()
			p.lay(api.Rec{Op: api.Make, Id: id, Tag: w.Tag, Key: w.Key}, parent, row[0])
			if l := slices.Clone(w.Attrs); len(l) > 0 {
				slices.SortStableFunc(l, func(a, b api.Attr) int { return strings.Compare(fmt.Sprint(b.Static), fmt.Sprint(a.Static)) })
				p.do(api.Rec{Op: api.Attrs, Id: id, Attrs: l})
			}
			p.patch(id, nil, 0, w.Kids)
		}
	}
	for _, id := range left() {
		p.do(api.Rec{Op: api.Gone, Id: id})
	}
}

// lay does a Make, and puts what was made.
func (p *plain) lay(r api.Rec, parent, before int) {
	p.do(r)
	p.do(api.Rec{Op: api.Put, Id: r.Id, Parent: parent, Before: before})
}

// taken is where, of what is left, what is wanted takes something, or -1.
func (p *plain) taken(w wish.Want, left []int) int {
	n := len(left)
	if w.Kind != elem || w.Key == "" {
		n = min(n, 1)
	}
	return slices.IndexFunc(left[:n], func(id int) bool {
		x, _ := p.d.Node(id)
		switch w.Kind {
		case words:
			return x.Tag == ""
		case elem:
			return x.Tag != "" && x.Tag == w.Tag && x.Key == w.Key
		}
		return w.Kind == next
	})
}

// bring brings what is taken ahead; the last one of the row is what stands behind all.
func (p *plain) bring(parent int, row []int, at int) {
	if at == 0 {
		return
	}
	if f := p.d.Focus(); f == 0 || !slices.Contains(path.All(p.d, row[at]), f) {
		p.do(api.Rec{Op: api.Put, Id: row[at], Parent: parent, Before: row[0]})
		return
	}
	for i := range at {
		p.do(api.Rec{Op: api.Put, Id: row[i], Parent: parent, Before: row[at+1]})
	}
}

// fit makes of what is taken what is wanted.
func (p *plain) fit(id int, w wish.Want) {
	x, _ := p.d.Node(id)
	if w.Kind == words && x.Text != w.Text {
		p.do(api.Rec{Op: api.Data, Id: id, Text: w.Text})
	}
	if w.Kind != elem {
		return
	}
	if l := joined(x.Attrs, w.Attrs); !slices.Equal(l, x.Attrs) {
		p.do(api.Rec{Op: api.Attrs, Id: id, Attrs: l})
	}
	p.patch(id, x.Kids, 0, w.Kids)
}

// joined goes over both lists at once.
func joined(old, want []api.Attr) []api.Attr {
	var l []api.Attr
	for i, a := range slices.Concat(old, want) {
		isOld := i < len(old)
		known := slices.ContainsFunc(l, func(b api.Attr) bool { return b.Name == a.Name })
		if isOld && a.Static || !isOld && !a.Static && !known {
			l = append(l, a)
		}
	}
	return l[:min(8, len(l))]
}

// held does a patch, and holds it against the plain one; without an error, also against what follows. The error is told.
func held(t *testing.T, d *dom.Doc, parent int, ids []int, behind int, want []wish.Want) error {
	t.Helper()
	was, log := d.Clone(), mut.New(d)
	p := plain{d: d.Clone()}
	p.patch(parent, ids, behind, want)
	wasWant, wasIds := ownWants(want), slices.Clone(ids)
	err := walk.Patch(log, d, parent, ids, behind, want)
	done := log.All()
	fail := func(what, got, told string) {
		t.Helper()
		t.Fatalf("Patch(%d, %v, %d, %v) of %s: %s: %s\nnot %s", parent, ids, behind, want, all(was), what, got, told)
	}
	if !is(err, p.err) {
		fail("error", fmt.Sprint(err), fmt.Sprint(p.err))
	}
	if got, told := telling(done), telling(p.done); got != told {
		fail("changes", got, told)
	}
	if got, told := all(d), all(p.d); got != told {
		fail("document", got, told)
	}
	if !wish.Same(want, wasWant) || !slices.Equal(ids, wasIds) {
		fail("handed in", fmt.Sprint(want, ids), fmt.Sprint(wasWant, wasIds))
	}
	if err == nil {
		follows(fail, was, d, done, parent, ids, behind, want)
	}
	return err
}

// follows holds what follows: P19.3, and T2, T3, T5 and T6 of this layer.
func follows(fail func(what, got, told string), was, d *dom.Doc, done []api.Rec, parent int, ids []int, behind int, want []wish.Want) {
	before, got := whole(was), whole(d)
	if told := replaced(was, parent, ids, behind, denote.Of(want, treesOf(was, ids))); got != told {
		fail("trees", got, told)
	}
	replayed := was.Clone()
	if err := mut.Replay(replayed, done); err != nil || all(replayed) != all(d) {
		fail("replayed", all(replayed), all(d))
	}
	made, old := 0, 0
	for _, r := range done {
		if r.Op == api.Make {
			made++
		}
	}
	for _, id := range ids {
		old += len(path.All(was, id))
	}
	if made > bound.Nodes(want) || len(done) > bound.Changes(want, old) {
		fail("bounds", fmt.Sprint(made, len(done)), fmt.Sprint(bound.Nodes(want), bound.Changes(want, old)))
	}
	now := ran(was, d, parent, ids, behind)
	if what := taken(was, d, ids, now, want); what != "" {
		fail("identities", what, before)
	}
	if what := notes(was, d); what != "" {
		fail("notes", what, before)
	}
	if what := focused(was, d, done); what != "" {
		fail("focus", what, telling(done))
	}
	if meant, err := wish.Of(wish.Back(want)); err == nil && wish.Same(meant, want) && !stays(want) {
		again := mut.New(d)
		if err := walk.Patch(again, d, parent, now, behind, want); err != nil || len(again.All()) > 0 {
			fail("again", telling(again.All()), "")
		}
	}
}

// whole tells all that has no parent, the root first, as trees.
func whole(d *dom.Doc) string {
	var s strings.Builder
	for _, id := range d.Ids() {
		if n, _ := d.Node(id); n.Parent == 0 {
			x, _ := tree.Of(d, id)
			showTo(&s, []api.Tree{x})
		}
	}
	return s.String()
}

func showTo(s *strings.Builder, l []api.Tree) {
	for _, x := range l {
		fmt.Fprintf(s, "(%q %q %q", x.Tag, x.Key, x.Text)
		for _, a := range x.Attrs {
			fmt.Fprintf(s, " %q=%q %v", a.Name, a.Value, a.Static)
		}
		s.WriteString(" in it")
		showTo(s, x.Kids)
		s.WriteString(")")
	}
}

func treesOf(d *dom.Doc, ids []int) []api.Tree {
	var l []api.Tree
	for _, id := range ids {
		x, _ := tree.Of(d, id)
		l = append(l, x)
	}
	return l
}

// replaced tells a document's trees, with others in the place of some nodes.
func replaced(d *dom.Doc, parent int, ids []int, behind int, by []api.Tree) string {
	var s strings.Builder
	for _, id := range d.Ids() {
		if n, _ := d.Node(id); n.Parent == 0 {
			showTo(&s, []api.Tree{treeBut(d, id, parent, ids, behind, by)})
		}
	}
	return s.String()
}

func treeBut(d *dom.Doc, id, parent int, ids []int, behind int, by []api.Tree) api.Tree {
	n, _ := d.Node(id)
	x := api.Tree{Tag: n.Tag, Key: n.Key, Text: n.Text, Attrs: n.Attrs}
	for _, kid := range n.Kids {
		if id == parent && kid == behind {
			x.Kids = append(x.Kids, by...)
		}
		if !slices.Contains(ids, kid) {
			x.Kids = append(x.Kids, treeBut(d, kid, parent, ids, behind, by))
		}
	}
	if id == parent && behind == 0 {
		x.Kids = append(x.Kids, by...)
	}
	return x
}

// ran are the nodes that stand where some stood.
func ran(was, d *dom.Doc, parent int, ids []int, behind int) []int {
	old, now := kids(was, parent), kids(d, parent)
	end := len(old)
	if behind != 0 {
		end = slices.Index(old, behind)
	}
	return now[end-len(ids) : len(now)-(len(old)-end)]
}

// taken holds the identities of what stands now: each is that of what was taken, or kept, or one that was never given.
func taken(was, d *dom.Doc, ids, now []int, want []wish.Want) string {
	var olds []match.Old
	for _, id := range ids {
		n, _ := was.Node(id)
		olds = append(olds, match.Old{Tag: n.Tag, Key: n.Key})
	}
	found := match.Of(olds, want)
	for i, w := range want {
		took := found.Take[i]
		switch {
		case w.Kind == rest:
			for _, place := range found.Kept {
				if now[0] != ids[place] {
					return fmt.Sprint(now[0], " isn't kept ", ids[place])
				}
				now = now[1:]
			}
			found.Kept = nil
			continue
		case took < 0 && w.Kind != elem && w.Kind != words:
			continue
		case took >= 0 && now[0] != ids[took]:
			return fmt.Sprint(now[0], " isn't taken ", ids[took])
		case took < 0 && now[0] < was.Next():
			return fmt.Sprint(now[0], " isn't new")
		}
		if w.Kind == elem {
			// Of what is new there are none: of an identity that wasn't there.
			if what := taken(was, d, kids(was, now[0]), kids(d, now[0]), w.Kids); what != "" {
				return what
			}
		}
		now = now[1:]
	}
	if len(now) > 0 {
		return fmt.Sprint(now, " aren't wanted")
	}
	return ""
}

// notes holds that each node that stayed has its Note, its Tag and its Key, and each new one the Note 0.
func notes(was, d *dom.Doc) string {
	for _, id := range d.Ids() {
		n, _ := d.Node(id)
		if old, ok := was.Node(id); ok && (n.Note != old.Note || n.Tag != old.Tag || n.Key != old.Key) || !ok && (n.Note != 0 || id < was.Next()) {
			return fmt.Sprint(n, old)
		}
	}
	return ""
}

// focused holds that the focus is the same, if it is there, and then no change puts it, or what it is in, or lets it go.
func focused(was, d *dom.Doc, done []api.Rec) string {
	_, there := d.Node(was.Focus())
	if !there {
		if d.Focus() != 0 {
			return fmt.Sprint(d.Focus(), " is the focus")
		}
		return ""
	}
	if d.Focus() != was.Focus() {
		return fmt.Sprint(d.Focus(), " is the focus, not ", was.Focus())
	}
	up := path.Up(was, was.Focus())
	if !slices.Equal(up, path.Up(d, d.Focus())) {
		return "it is elsewhere"
	}
	for _, r := range done {
		if slices.Contains(up, r.Id) && r.Op != api.Attrs && r.Op != api.Data {
			return fmt.Sprint(r)
		}
	}
	return ""
}

// stays tells whether it is wanted somewhere that something stays.
func stays(l []wish.Want) bool {
	return slices.ContainsFunc(l, func(w wish.Want) bool { return w.Kind == next || w.Kind == rest || stays(w.Kids) })
}

// everywhere does a patch of each run of children of a node, each on a document of its own.
func everywhere(t *testing.T, d *dom.Doc, parent int, want []wish.Want) int {
	t.Helper()
	row, n := append(kids(d, parent), 0), 0
	for i := range row {
		for j := i; j < len(row); j++ {
			held(t, d.Clone(), parent, row[i:j], row[j], want)
			n++
		}
	}
	return n
}

// P19.1, P19.3: all short lists of few trees and of few things wanted, with each focus: of all children.
func TestAllSmall(t *testing.T) {
	n := 0
	small := func(trees, wanted int) {
		each(grown(wants("'x p a=1 'y / p#k a:1 q#l / / br#k")), trees, func(old []api.Tree) {
			first := below(t, 20, old)
			for _, focus := range append(first.Ids(), 0) {
				if err := first.SetFocus(focus); err != nil {
					t.Fatal(err)
				}
				each(wants("'z p b=3 'y _ / p#k a=2 c:4 q#l / * / br#k _ *"), wanted, func(want []wish.Want) {
					if err := held(t, first.Clone(), 1, kids(first, 1), 0, want); err != nil {
						t.Fatal(err)
					}
					n++
				})
			}
		})
	}
	small(3, 2)
	small(2, 3)
	if n < 30000 {
		t.Errorf("%d: too few", n)
	}
}

// P19.1, P19.3: children with keys in each order, of which some are wanted in each order, with each focus: of each run of them.
func TestAllOrders(t *testing.T) {
	n := 0
	for _, s := range []string{"p#a / p#b 'x / p#c / p#d /", "p#d / 'x p#b q / / p#a /", "p#b / p#c p#d / / br p#a /"} {
		first := below(t, 20, grown(wants(s)))
		for _, focus := range append(first.Ids(), 0) {
			if err := first.SetFocus(focus); err != nil {
				t.Fatal(err)
			}
			each(wants("p#a / p#b _ / p#c p#d / / p#d / 'y"), 3, func(want []wish.Want) { n += everywhere(t, first, 1, want) })
		}
	}
	if n < 20000 {
		t.Errorf("%d: too few", n)
	}
}

// someTrees and someWants are made of what is picked, those that may be and those that may not.
var (
	tags  = []string{"p", "p", "p", "q", "br", "q"}
	named = []string{"", "", "k", "l", "m", ""}
)

func someAttrs(pick func(n int) int) []api.Attr {
	var l []api.Attr
	for range []int{0, 1, 2, 3, 6, 10}[pick(6)] {
		a := api.Attr{Name: string(rune('a' + pick(10))), Value: string(rune('0' + pick(4))), Static: pick(2) == 0}
		if !slices.ContainsFunc(l, func(b api.Attr) bool { return a.Name == b.Name }) && len(l) < 8 {
			l = append(l, a)
		}
	}
	return l
}

func someTrees(depth int, pick func(n int) int) []api.Tree {
	var l []api.Tree
	for range pick(6) {
		if pick(3) == 0 {
			l = append(l, api.Tree{Text: string(rune('a' + pick(5)))})
			continue
		}
		x := api.Tree{Tag: tags[pick(6)], Key: named[pick(6)], Attrs: someAttrs(pick)}
		if depth > 0 && x.Tag != "br" {
			x.Kids = someTrees(depth-1, pick)
		}
		l = append(l, x)
	}
	return l
}

// someWants may want what no program wants, if odd ones are asked for.
func someWants(depth int, odd, staying bool, pick func(n int) int) []wish.Want {
	var l []wish.Want
	for range pick(7) {
		w := wish.Want{Kind: []int{elem, elem, elem, elem, elem, words, words, next, rest, pick(9) - 2}[pick(10)]}
		if !odd && w.Kind != elem && w.Kind != words && (!staying || w.Kind != next && w.Kind != rest) {
			w.Kind = words
		}
		switch w.Kind {
		case words:
			w.Text = string(rune('a' + pick(5)))
		case elem:
			w.Tag, w.Key, w.Attrs = tags[pick(6)], named[pick(6)], someAttrs(pick)
			if depth > 0 && w.Tag != "br" {
				w.Kids = someWants(depth-1, odd, staying, pick)
			}
		}
		twice := w.Key != "" && slices.ContainsFunc(l, func(x wish.Want) bool { return w.Key == x.Key })
		if odd {
			w = wronged(w, pick)
		} else if twice {
			w.Key = ""
		}
		l = append(l, w)
		if !odd && w.Kind == rest {
			break
		}
	}
	return l
}

// wronged is at times what may not be.
func wronged(w wish.Want, pick func(n int) int) wish.Want {
	switch pick(30) {
	case 0:
		w.Tag = ""
	case 1:
		w.Tag, w.Key = "P", "\n"
	case 2:
		w.Kids = append(w.Kids, wants("'x _ br")...)
	case 3:
		w.Text += "\xff"
	case 4:
		w.Attrs = append(w.Attrs, api.Attr{Name: "a"}, api.Attr{Name: "-"})
	case 5:
		w.Kind = pick(5)
	}
	return w
}

// chance does some patches, one behind the other, at places that are picked, of what is picked.
func chance(t *testing.T, pick func(n int) int) (programs, errs, moves int) {
	t.Helper()
	room, trees := 150, []api.Tree(nil)
	for _, x := range someTrees(3, pick) {
		if n := tree.Count(x); n <= room {
			room, trees = room-n, append(trees, x)
		}
	}
	d := below(t, 200, trees)
	for range 6 {
		l := d.Ids()
		if err := d.SetFocus(append(l, 0)[pick(len(l)+1)]); err != nil {
			t.Fatal(err)
		}
		parent := 1
		if pick(2) == 0 {
			parent = l[pick(len(l))]
		}
		row := append(kids(d, parent), 0)
		from := pick(len(row))
		if pick(2) == 0 {
			from = 0
		}
		to := len(row) - 1
		if pick(2) == 0 {
			to = from + pick(len(row)-from)
		}
		odd := pick(4) == 0
		want := someWants(3, odd, pick(2) == 0, pick)
		if _, err := wish.Of(wish.Back(want)); err == nil {
			programs++
		}
		was := path.Up(d, d.Focus())
		if held(t, d, parent, row[from:to], row[to], want) != nil {
			errs++
		} else if len(was) > 1 && slices.Contains(row[from:to], was[max(0, len(was)-2)]) && d.Focus() != 0 {
			moves++
		}
	}
	return programs, errs, moves
}

// P19.1, P19.3: by chance, by a fixed seed.
func TestByChance(t *testing.T) {
	r := rand.New(rand.NewSource(19))
	programs, errs, moves := 0, 0, 0
	for range 2000 {
		p, e, m := chance(t, r.Intn)
		programs, errs, moves = programs+p, errs+e, moves+m
	}
	if programs < 6000 || errs < 400 || moves < 400 {
		t.Errorf("%d programs, %d errors, %d with the focus in what was patched, and there: too few", programs, errs, moves)
	}
}

// P19.2: nothing that was handed in is kept: what is written into it later changes neither the document nor the log; nor is what lies behind its end read, or written.
func TestHandedIn(t *testing.T) {
	d := doc(t, "'a p#k a:1 b=2 'b / 'c q /", 4)
	ids, want := append(make([]int, 0, 9), 2, 3, 5, 6), wants("p#k b=3 c=4 'd q#l x=1 y:2 'e / / 'f br z=1 z:2")
	want[2].Attrs = append(make([]api.Attr, 0, 9), want[2].Attrs[:1]...)
	told := recs("put 2 1 5; attrs 3 a:1 b=3 c=4; data 4 'd; make 7 q#l; put 7 3 0; attrs 7 y:2 x=1; make 8 'e; put 8 7 0; data 2 'f; make 9 br; put 9 1 5; attrs 9 z=1; gone 5; gone 6")
	log := mut.New(d)
	if err := walk.Patch(log, d, 1, ids, 0, want); err != nil || telling(log.All()) != telling(told) {
		t.Fatalf("%v:%s\nnot%s", err, telling(log.All()), telling(told))
	}
	if !slices.Equal(ids[:9], []int{2, 3, 5, 6, 0, 0, 0, 0, 0}) || !slices.Equal(want[2].Attrs[:9], append([]api.Attr{{Name: "z", Value: "1"}}, make([]api.Attr, 8)...)) {
		t.Errorf("written behind what was handed in: %v, %v", ids[:9], want[2].Attrs[:9])
	}
	was := all(d)
	for i := range ids[:9] {
		ids[:9][i] = 99
	}
	spoil(want)
	if all(d) != was || telling(log.All()) != telling(told) {
		t.Errorf("a change of what was handed in changes %s%s", all(d), telling(log.All()))
	}
}

// spoil changes all that is wanted.
func spoil(l []wish.Want) {
	for i := range l {
		spoil(l[i].Kids)
		attrs := l[i].Attrs[:cap(l[i].Attrs)]
		for j := range attrs {
			attrs[j] = api.Attr{Name: "spoiled"}
		}
		l[i] = wish.Want{Kind: elem, Tag: "spoiled"}
	}
}

// P19.1: a log that has changes keeps them; those of a patch, and of the next one, come behind.
func TestLog(t *testing.T) {
	d, err := dom.New(20)
	if err != nil {
		t.Fatal(err)
	}
	old, log := d.Clone(), mut.New(d)
	ahead := recs("make 2 p#k; put 2 1 0; make 3 'a; put 3 1 2; gone 3")
	for _, r := range ahead {
		if err := log.Do(r); err != nil {
			t.Fatal(err)
		}
	}
	first := walk.Patch(log, d, 1, []int{2}, 0, wants("'b p#k /"))
	second := walk.Patch(log, d, 2, nil, 0, wants("'c"))
	third := walk.Patch(log, d, 1, []int{2}, 4, wants("'c"))
	if told := append(ahead, recs("make 4 'b; put 4 1 2; make 5 'c; put 5 2 0")...); first != nil || second != nil || !is(third, api.ErrArg) || telling(log.All()) != telling(told) {
		t.Errorf("%v, %v, %v:%s\nnot%s", first, second, third, telling(log.All()), telling(told))
	}
	if err := mut.Replay(old, log.All()); err != nil || all(old) != all(d) {
		t.Errorf("%v, replayed %s, not %s", err, all(old), all(d))
	}
}

// P1: a log of another document, or of none, isn't what the chapter speaks of; the call ends all the same, and d itself is as it was.
func TestOtherLog(t *testing.T) {
	for _, s := range []string{"", "*", "_ 'x", "'x 'y 'z", "p#k 'x q / / br", "p#l / p#k _ 'x / p#l a=1 'x 'y / 'z", "q 'x 'y 'z / q / q /"} {
		for _, focus := range []int{0, 3, 4, 6} {
			for _, other := range []*dom.Doc{nil, doc(t, "", 0), doc(t, "'a", 0), doc(t, "'a p#k 'b / br p#l / 'c 'd q /", 4), doc(t, "p q r / / /", 2)} {
				d := doc(t, "'a p#k 'b br / p#l / 'c", focus)
				was := all(d)
				walk.Patch(mut.New(other), d, 1, kids(d, 1), 0, wants(s))
				walk.Patch(mut.New(other), d, 3, nil, 5, wants(s))
				if all(d) != was {
					t.Errorf("%s: changed to %s, not %s", s, all(d), was)
				}
			}
		}
	}
}

// P1: nothing is kept from call to call: goroutines may patch documents of their own at once (go test -race sees more).
func TestTwice(t *testing.T) {
	const old, want = "'a p#k a:1 'b / p#l / 'c", "p#l / q b=1 / p#k c=2 'd / 'e"
	first := doc(t, old, 4)
	told := plain{d: first.Clone()}
	told.patch(1, []int{2, 3, 5, 6}, 0, wants(want))
	same := wants(want)
	var together sync.WaitGroup
	for range 6 {
		together.Go(func() {
			for range 50 {
				d := first.Clone()
				log := mut.New(d)
				if err := walk.Patch(log, d, 1, []int{2, 3, 5, 6}, 0, same); err != nil || telling(log.All()) != telling(told.done) || all(d) != all(told.d) {
					t.Errorf("%v:%s\nnot%s", err, telling(log.All()), telling(told.done))
				}
			}
		})
	}
	together.Wait()
}

// row is a document as wide as one may be: of p below the root, with keys from 2 on, as their identities.
func row(t *testing.T, n int) *dom.Doc {
	t.Helper()
	var l []api.Tree
	for i := range n {
		l = append(l, api.Tree{Tag: "p", Key: strconv.Itoa(i + 2)})
	}
	return below(t, 200, l)
}

// P1, P19.1: the widest and deepest documents.
func TestGreatDocuments(t *testing.T) {
	wide := row(t, 199)
	var turned []wish.Want
	for i := 200; i >= 2; i-- {
		turned = append(turned, wish.Want{Kind: elem, Tag: "p", Key: strconv.Itoa(i)})
	}
	for _, focus := range []int{0, 1, 2, 3, 100, 199, 200} {
		if err := wide.SetFocus(focus); err != nil {
			t.Fatal(err)
		}
		for _, want := range [][]wish.Want{nil, turned, turned[:1], turned[100:], append(slices.Clone(turned[:99]), wants("*")...), slices.Repeat(wants("_"), 300)} {
			if err := held(t, wide.Clone(), 1, kids(wide, 1), 0, want); err != nil {
				t.Error(err)
			}
		}
	}
	if err := held(t, wide.Clone(), 1, kids(wide, 1), 0, wants("_ 'x")); !is(err, api.ErrFull) {
		t.Error(err)
	}

	deepTree, deep := wants("'x"), wants("'y")
	for range 197 {
		deepTree, deep = []wish.Want{{Kind: elem, Tag: "p", Kids: deepTree}}, []wish.Want{{Kind: elem, Tag: "p", Attrs: []api.Attr{{Name: "a"}}, Kids: deep}}
	}
	d := below(t, 200, grown(append(wants("'a"), deepTree...)))
	for _, focus := range []int{0, 2, 3, 100, 200} {
		if err := d.SetFocus(focus); err != nil {
			t.Fatal(err)
		}
		for _, c := range []struct {
			want []wish.Want
			err  error
		}{{append(wants("'b"), deep...), nil}, {append(wants("_"), deep...), nil}, {wants("_ _"), nil}, {wants("*"), nil}, {wants("'b"), nil}, {deep, api.ErrFull}} {
			if err := held(t, d.Clone(), 1, kids(d, 1), 0, c.want); !is(err, c.err) {
				t.Errorf("%v, not %v", err, c.err)
			}
		}
	}
}

// P1: very much wanted, very deep and very long: more than there is room for ends once there is none.
func TestGreatWants(t *testing.T) {
	const many = 1 << 17
	deep := wants("'x _ *")
	for range 1 << 16 {
		deep = []wish.Want{{Kind: elem, Tag: "p", Kids: deep}}
	}
	long := strings.Repeat("k", 1<<22)
	attrs := slices.Repeat([]api.Attr{{Name: "a", Value: "1"}, {Name: "b", Static: true}}, many)
	for _, c := range []struct {
		what string
		want []wish.Want
		err  error
		n    int
	}{
		{"texts", slices.Repeat(wants("'x"), many), api.ErrFull, 2 * 196},
		{"elements", slices.Repeat(wants("q _ 'x br /"), many), api.ErrFull, 2 * 196},
		{"the next", slices.Repeat(wants("_"), many), nil, 0},
		{"all", slices.Repeat(wants("*"), many), nil, 0},
		{"of kinds that there aren't", make([]wish.Want, many), nil, 2},
		{"deep", deep, api.ErrFull, 2 * 196},
		{"deep, of one key", append(wants("p#3 /"), deep...), api.ErrFull, 1 + 2*196},
		{"the next of nothing, in one that is taken", []wish.Want{{Kind: elem, Tag: "p", Key: "3", Kids: slices.Repeat(wants("_ *"), many)}}, nil, 2},
		{"a long tag", []wish.Want{{Kind: elem, Tag: long}}, api.ErrArg, 0},
		{"a long key", []wish.Want{{Kind: elem, Tag: "p", Key: long}}, api.ErrArg, 0},
		{"a long text", []wish.Want{{Kind: words, Text: long}}, api.ErrArg, 0},
		{"attributes of a new one", []wish.Want{{Kind: elem, Tag: "q", Attrs: attrs}}, api.ErrArg, 2},
		{"attributes of one that is taken", []wish.Want{{Kind: elem, Tag: "p", Key: "2", Attrs: attrs}}, nil, 2},
	} {
		d := row(t, 3)
		log := mut.New(d)
		if err := walk.Patch(log, d, 1, []int{2, 3}, 4, c.want); !is(err, c.err) || len(log.All()) != c.n {
			t.Errorf("%s: %v, %d changes, not %v, %d", c.what, err, len(log.All()), c.err, c.n)
		}
	}
}

// P1: a goal for go test -fuzz; its seeds run in every test. Each byte picks something.
func FuzzWalk(f *testing.F) {
	for _, s := range []string{"", strings.Repeat("\x05\x01\x02\x00\x03", 60), strings.Repeat("\x03\x01\x00\x02\x04\x01\x05", 90), strings.Repeat("\x02\x02\x01\x03", 200), strings.Repeat("\x04\x05\x06\x02\x01\x01\x00\x03", 100)} {
		f.Add([]byte(s))
	}
	f.Fuzz(func(t *testing.T, b []byte) {
		chance(t, func(n int) int {
			if len(b) == 0 {
				return 0
			}
			x := int(b[0]) % n
			b = b[1:]
			return x
		})
	})
}
