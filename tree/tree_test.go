package tree_test

import (
	"fmt"
	"math"
	"math/rand"
	"slices"
	"strings"
	"testing"

	"placket/api"
	"placket/dom"
	"placket/mut"
	"placket/tree"
)

// far are identities, the smallest and the greatest numbers among them, that no small document has.
var far = []int{-1, -2, -7, -200, 200, 201, 1 << 20, -1 << 20, math.MinInt32, math.MaxInt32, math.MinInt, math.MinInt + 1, math.MaxInt - 1, math.MaxInt, 1 << 32, 1<<32 + 1, 1<<32 + 2}

// is holds an error against a Code (0: none): the Code itself, not one that has it within.
func is(err error, c api.Code) bool {
	if c == 0 || err == nil {
		return c == 0 && err == nil
	}
	got, ok := err.(api.Code)
	return ok && got == c
}

func fresh(t *testing.T, room int) *dom.Doc {
	t.Helper()
	d, err := dom.New(room)
	if d == nil || err != nil {
		t.Fatalf("New(%d): %v, %v", room, d, err)
	}
	return d
}

// Changes.
func element(id int, tag string) api.Rec    { return api.Rec{Op: api.Make, Id: id, Tag: tag} }
func keyed(id int, tag, key string) api.Rec { return api.Rec{Op: api.Make, Id: id, Tag: tag, Key: key} }
func text(id int, s string) api.Rec         { return api.Rec{Op: api.Make, Id: id, Text: s} }
func put(id, parent, before int) api.Rec {
	return api.Rec{Op: api.Put, Id: id, Parent: parent, Before: before}
}
func gone(id int) api.Rec                 { return api.Rec{Op: api.Gone, Id: id} }
func attrs(id int, l ...api.Attr) api.Rec { return api.Rec{Op: api.Attrs, Id: id, Attrs: l} }

// Trees.
func tx(s string) api.Tree                       { return api.Tree{Text: s} }
func el(tag string, kids ...api.Tree) api.Tree   { return api.Tree{Tag: tag, Kids: kids} }
func key(x api.Tree, key string) api.Tree        { x.Key = key; return x }
func at(x api.Tree, l ...api.Attr) api.Tree      { x.Attrs = l; return x }
func said(x api.Tree, s string) api.Tree         { x.Text = s; return x }
func with(x api.Tree, kids ...api.Tree) api.Tree { x.Kids = kids; return x }
func plain(name, value string) api.Attr          { return api.Attr{Name: name, Value: value} }
func static(name, value string) api.Attr         { return api.Attr{Name: name, Value: value, Static: true} }
func rep(s string, n int) string                 { return strings.Repeat(s, n) }
func times[T any](n int, make func(i int) T) (l []T) {
	for i := range n {
		l = append(l, make(i))
	}
	return l
}

// deep is a tree below so many elements, each between two texts.
func deep(n int, x api.Tree) api.Tree {
	for range n {
		x = el("b", tx("ahead"), x, tx("behind"))
	}
	return x
}

// show tells a tree with all its fields; two are the same if they are shown so.
func show(x api.Tree) string {
	var s strings.Builder
	showTo(&s, x)
	return s.String()
}

func showTo(s *strings.Builder, x api.Tree) {
	fmt.Fprintf(s, "(%q %q %q %s", x.Tag, x.Text, x.Key, showAttrs(x.Attrs))
	for _, kid := range x.Kids {
		showTo(s, kid)
	}
	s.WriteString(")")
}

func showAttrs(l []api.Attr) string {
	s := ""
	for _, a := range l {
		s += fmt.Sprintf("%q=%q %v;", a.Name, a.Value, a.Static)
	}
	return s
}

// showRecs tells each of some changes with all its fields.
func showRecs(l []api.Rec) []string {
	var s []string
	for _, r := range l {
		s = append(s, fmt.Sprintf("%d: %d below %d before %d, %q %q %q, %s", r.Op, r.Id, r.Parent, r.Before, r.Tag, r.Text, r.Key, showAttrs(r.Attrs)))
	}
	return s
}

// state tells all that a document tells.
func state(d *dom.Doc) string {
	s := fmt.Sprint(d.Ids(), d.Next(), d.Free(), d.Focus())
	for _, id := range d.Ids() {
		n, ok := d.Node(id)
		s += fmt.Sprintf("\n%d below %d: %q %q %q, %s, kids %v, note %d, %v", n.Id, n.Parent, n.Tag, n.Text, n.Key, showAttrs(n.Attrs), n.Kids, n.Note, ok)
	}
	return s
}

// a is a document that many tests begin with; the order of children is not that of their identities.
//
//	1 root
//	  7 p, of attributes
//	    3 text
//	    4 p, of a key
//	      6 text, empty
//	      10 b
//	    5 br, of a static attribute
//	  2 div
//	  8 text
//	9 p, nowhere
//	  11 text
//
// 12 is gone; 13 wasn't there yet. The focus is 6, and 4 has a note.
func a(t *testing.T, room int) *dom.Doc {
	t.Helper()
	d := fresh(t, room)
	for _, r := range []api.Rec{
		element(2, "div"), text(3, "x<y"), keyed(4, "p", "k"), element(5, "br"), text(6, ""), element(7, "p"), text(8, "y"), element(9, "p"),
		element(10, "b"), text(11, "z"), element(12, "p"),
		put(2, 1, 0), put(7, 1, 2), put(8, 1, 0), put(3, 7, 0), put(5, 7, 0), put(4, 7, 5), put(10, 4, 0), put(6, 4, 10), put(11, 9, 0),
		attrs(7, plain("a", "1"), static("b", "2")), attrs(5, static("c", "")), gone(12),
	} {
		if err := d.Apply(r); err != nil {
			t.Fatalf("Apply(%#v): %v", r, err)
		}
	}
	if d.SetFocus(6) != nil || d.Note(4, 44) != nil {
		t.Fatal("the focus, or a note")
	}
	return d
}

// full is a without any room.
func full(t *testing.T) *dom.Doc {
	t.Helper()
	d := a(t, 12)
	if err := d.Apply(text(13, "t")); err != nil || d.Free() != 0 {
		t.Fatalf("full: %v, Free %d", err, d.Free())
	}
	return d
}

// eight are as many attributes as there may be.
func eight() []api.Attr {
	return times(8, func(i int) api.Attr {
		return api.Attr{Name: "a" + fmt.Sprint(i), Value: fmt.Sprint(i), Static: i%2 == 0}
	})
}

// maybe are trees that may be, with the edges of each field.
func maybe() []api.Tree {
	l := []api.Tree{
		{}, tx("x"), tx(" "), tx("~"), tx("<&>\""), tx(rep("x", 60)), {Text: "x", Attrs: []api.Attr{}, Kids: []api.Tree{}},
		el("p"), el("a"), el("root"), el("a-"), el("a1-"), el(rep("z", 12)), el("p", el("p", el("p"))), el("p", tx("")), el("p", tx("a"), tx("b")),
		{Tag: "p", Attrs: []api.Attr{}, Kids: []api.Tree{}},
		key(el("p"), " "), key(el("p"), "1"), key(el("p"), "k k"), key(el("p"), "~"), key(el("p"), rep("k", 60)),
		key(el("p", key(el("p"), "k"), key(el("p"), "k")), "k"),
		at(el("p"), plain("a", "")), at(el("p"), static("a", "")), at(el("p"), plain("a", "1"), static("b", "1")), at(el("p"), eight()...),
		at(el("p"), plain(rep("a", 12), rep("v", 60))), at(el("p", at(el("p"), plain("a", ""))), plain("a", "")), at(el("p"), plain("key", ""), plain("p", "")),
		el("br-"), el("brr", tx("x")), el("b", tx("x")), el("inputs", el("p")), el("im", el("p")), el("h", el("hr")),
		el("p", times(300, func(i int) api.Tree { return tx("x") })...),
	}
	for _, void := range []string{"br", "hr", "img", "input"} {
		l = append(l, el(void), api.Tree{Tag: void, Kids: []api.Tree{}}, key(at(el(void), eight()...), "k"), el("p", el(void), tx("x"), el(void)))
	}
	return l
}

// maynot are trees that may not be, each for one reason at its top.
func maynot() []api.Tree {
	l := []api.Tree{
		tx("\n"), tx("\x1f"), tx("\x7f"), tx("\x80"), tx("\xff"), tx("\u00e9"), tx("\x00"), tx("x\n"), tx(rep("x", 61)),
		key(tx("x"), "k"), key(tx(""), "k"), key(tx(""), " "), at(tx("x"), plain("a", "1")), at(tx(""), static("a", "")), at(tx(""), plain("", "")),
		with(tx("x"), tx("y")), with(tx(""), tx("")), with(tx(""), el("p")),
		said(el("p"), "x"), said(el("p"), " "), said(el("br"), "x"), said(el("p", tx("x")), "x"),
		el("P"), el("1"), el("-"), el(" "), el("p "), el("pP"), el("p_"), el("p\n"), el("p\x00"), el("\u00e9"), el(rep("z", 13)),
		key(el("p"), "\n"), key(el("p"), "\x7f"), key(el("p"), "\xff"), key(el("p"), rep("k", 61)), key(el("br"), "\n"),
		at(el("p"), plain("", "")), at(el("p"), plain("A", "")), at(el("p"), plain("1", "")), at(el("p"), plain("a", "\n")), at(el("p"), plain("a", rep("v", 61))),
		at(el("p"), plain(rep("a", 13), "")), at(el("p"), plain("a", ""), plain("a", "")), at(el("p"), plain("a", ""), plain("b", ""), static("a", "1")),
		at(el("p"), append(eight(), plain("z", ""))...), at(el("p"), append(eight()[:7], plain("a0", ""))...), at(el("br"), plain("a", ""), plain("a", "")),
	}
	for _, void := range []string{"br", "hr", "img", "input"} {
		l = append(l, el(void, tx("x")), el(void, tx("")), el(void, el("p")), el(void, el(void)), key(at(el(void, tx("x")), plain("a", "")), "k"))
	}
	return l
}

// below are trees that have one below them, in each place, and at several depths.
func below(x api.Tree) []api.Tree {
	return []api.Tree{
		el("p", x), el("p", x, tx("x")), el("p", tx("x"), x), el("p", tx(""), x, el("br")), el("p", el("p", x)), el("p", el("p"), el("b", tx("x"), x), el("p")),
		key(at(el("p", key(el("b", x), "k")), eight()...), "k"), deep(3, x), deep(7, x), deep(8, x), deep(9, x), deep(60, x), deep(300, x),
		el("p", append(times(250, func(i int) api.Tree { return el("br") }), x)...),
	}
}

// P8.1: trees that may be, at the top, and at all places below.
func TestMay(t *testing.T) {
	for _, x := range maybe() {
		if !tree.May(x) {
			t.Errorf("May(%s): false", show(x))
		}
		for _, y := range below(x) {
			if !tree.May(y) {
				t.Errorf("May of a tree of %d nodes with %s below: false", tree.Count(y), show(x))
			}
		}
	}
}

// P8.1: trees that may not be; one far below is enough.
func TestMayNot(t *testing.T) {
	for _, x := range maynot() {
		if tree.May(x) {
			t.Errorf("May(%s): true", show(x))
		}
		for _, y := range below(x) {
			if tree.May(y) {
				t.Errorf("May of a tree of %d nodes with %s below: true", tree.Count(y), show(x))
			}
		}
	}
}

// faults tells what is wrong with a tree by its first node alone, with the chapter's words one by one.
func faults(x api.Tree) (l []string) {
	wrong := func(is bool, what string) {
		if is {
			l = append(l, what)
		}
	}
	isText := func(s string) bool {
		return len(s) <= 60 && !strings.ContainsFunc(s, func(r rune) bool { return r < 32 || r > 126 })
	}
	isName := func(s string) bool {
		return len(s) >= 1 && len(s) <= 12 && strings.Trim(s, "abcdefghijklmnopqrstuvwxyz0123456789-") == "" && strings.IndexAny(s[:1], "0123456789-") < 0
	}
	names := map[string]int{}
	for _, a := range x.Attrs {
		names[a.Name]++
		wrong(x.Tag != "" && !isName(a.Name), "an attribute's name")
		wrong(x.Tag != "" && !isText(a.Value), "an attribute's value")
	}
	if x.Tag == "" {
		wrong(!isText(x.Text), "the text")
		wrong(x.Key != "", "a key")
		wrong(len(x.Attrs) != 0, "attributes")
		wrong(len(x.Kids) != 0, "kids")
		return l
	}
	wrong(!isName(x.Tag), "the tag")
	wrong(!isText(x.Key), "the key")
	wrong(x.Text != "", "a text")
	wrong(len(x.Attrs) > 8, "too many attributes")
	wrong(len(names) < len(x.Attrs), "a name twice")
	wrong(slices.Contains([]string{"br", "hr", "img", "input"}, x.Tag) && len(x.Kids) != 0, "void, with kids")
	return l
}

// may tells whether a tree may be, by the faults of all its nodes.
func may(x api.Tree) bool {
	for _, n := range nodes(x) {
		if len(faults(n)) > 0 {
			return false
		}
	}
	return true
}

// nodes are all nodes of a tree, each ahead of what is below it, in order; not by a call to itself.
func nodes(x api.Tree) []api.Tree {
	left := []api.Tree{x}
	var l []api.Tree
	for len(left) > 0 {
		n := left[len(left)-1]
		l = append(l, n)
		left = left[:len(left)-1]
		for _, kid := range slices.Backward(n.Kids) {
			left = append(left, kid)
		}
	}
	return l
}

// all are all trees whose fields are of some few.
func all(kids [][]api.Tree) []api.Tree {
	var l []api.Tree
	for _, tag := range []string{"", "p", "br", "P"} {
		for _, text := range []string{"", "x", "\n"} {
			for _, key := range []string{"", "k", "\n"} {
				for _, attrs := range [][]api.Attr{nil, {}, {plain("a", "1")}, {static("a", "1")}, {plain("a", "1"), plain("a", "1")}, {plain("", "")}} {
					for _, kids := range kids {
						l = append(l, api.Tree{Tag: tag, Text: text, Key: key, Attrs: attrs, Kids: kids})
					}
				}
			}
		}
	}
	return l
}

var someKids = [][]api.Tree{nil, {}, {tx("x")}, {tx("")}, {tx("\n")}, {el("p")}, {el("br", tx(""))}, {tx("x"), el("p")}, {el("p"), tx("x")}, {el("p", el("p")), tx("\n")}}

// P8.1, P1: all trees whose fields are of some few, alone and below another one: May, Count, and Same with themselves.
func TestAllSmall(t *testing.T) {
	can := 0
	for _, x := range all(someKids) {
		want := may(x)
		if want {
			can++
		}
		for _, y := range []api.Tree{x, el("p", x), el("p", tx("x"), el("b", x), tx("x"))} {
			if got := tree.May(y); got != want || may(y) != want {
				t.Errorf("May(%s): %v, not %v: %v", show(y), got, want, faults(x))
			}
			if got := tree.Count(y); got != len(nodes(y)) {
				t.Errorf("Count(%s): %d, not %d", show(y), got, len(nodes(y)))
			}
			if !tree.Same(y, y) {
				t.Errorf("Same(%s) with itself: false", show(y))
			}
		}
	}
	if can < 50 {
		t.Errorf("only %d may be", can)
	}
}

// P8.1: of all pairs of such trees those are the same that have the same in each field; what may not be, too.
func TestSameAllSmall(t *testing.T) {
	l := append(all([][]api.Tree{nil, {}, {tx("x")}, {tx("x"), el("p")}, {el("p"), tx("x")}}), append(maybe(), maynot()...)...)
	shown := times(len(l), func(i int) string { return show(l[i]) })
	same := 0
	for i, x := range l {
		for j, y := range l {
			if got, want := tree.Same(x, y), shown[i] == shown[j]; got != want {
				t.Fatalf("Same(%s, %s): %v", shown[i], shown[j], got)
			} else if got && i != j {
				same++
			}
		}
	}
	if same == 0 {
		t.Error("none were the same")
	}
}

// others are trees that differ from one another in one thing alone, of each field.
func others() []api.Tree {
	return []api.Tree{
		{}, tx("x"), tx("X"), tx("x "), el("x"), el("p"), el("b"), el("br"), key(el("p"), "k"), key(el("p"), "K"), said(el("p"), "k"), key(tx(""), "k"), key(tx("k"), "k"),
		at(el("p"), plain("a", "")), at(el("p"), static("a", "")), at(el("p"), plain("b", "")), at(el("p"), plain("a", "1")), at(el("p"), plain("a", ""), plain("b", "")),
		at(el("p"), plain("b", ""), plain("a", "")), at(el("p"), plain("a", ""), static("b", "")), at(el("p"), plain("a", ""), plain("a", "")), at(tx(""), plain("a", "")),
		el("p", tx("x")), el("p", tx("x"), tx("x")), el("p", tx("x"), tx("x"), tx("x")), el("p", tx("x"), tx("y")), el("p", tx("y"), tx("x")), el("p", tx("")),
		el("p", tx(""), tx("x")), el("p", el("p")), el("p", el("p"), el("p")), el("p", el("p", el("p"))), el("p", el("p", tx("x")), tx("x")), el("p", el("p", tx("x"), tx("x"))),
		el("p", tx("x"), el("p", tx("x"))), el("p", key(el("p"), "k")), el("p", at(el("p"), static("a", ""))), el("p", at(el("p"), plain("a", ""))), with(tx(""), tx("x")),
		el("p", tx("p")), el("p", tx("xx")), said(el("p", tx("x")), "x"), el("xx"), tx("xx"),
	}
}

// P8.1: two that differ in one thing alone aren't the same, either way, at the top and far below; what differs in nothing is.
func TestSame(t *testing.T) {
	l, again := others(), others()
	for i, x := range l {
		for j, y := range again {
			for k, pair := range append(pairs(x, y), [2]api.Tree{x, y}) {
				if got := tree.Same(pair[0], pair[1]); got != (i == j) {
					t.Errorf("Same(%s, %s), %d: %v", show(x), show(y), k, got)
				}
			}
		}
	}
}

// pairs has two trees at the same place of two trees that differ in nothing else.
func pairs(x, y api.Tree) (l [][2]api.Tree) {
	xs, ys := below(x), below(y)
	return times(len(xs), func(i int) [2]api.Tree { return [2]api.Tree{xs[i], ys[i]} })
}

// P8.1: a list of no elements is as none; and it is no matter where a list's memory is.
func TestSameNoElements(t *testing.T) {
	none, empty := api.Tree{Tag: "p"}, api.Tree{Tag: "p", Attrs: []api.Attr{}, Kids: []api.Tree{}}
	behind := api.Tree{Tag: "p", Attrs: eight()[:0], Kids: []api.Tree{tx("x")}[:0]}
	for _, x := range []api.Tree{none, empty, behind} {
		for _, y := range []api.Tree{none, empty, behind} {
			if !tree.Same(x, y) || !tree.Same(deep(5, x), deep(5, y)) {
				t.Errorf("Same(%#v, %#v): false", x, y)
			}
		}
	}
	shared := at(el("p", tx("x"), tx("y"), tx("z")), eight()...)
	one, two := shared, shared
	one.Kids, two.Kids = shared.Kids[:1], shared.Kids[:2]
	if tree.Same(one, two) || tree.Same(two, one) || tree.Same(one, shared) {
		t.Error("Same of a front of the same list: true")
	}
	one, two = shared, shared
	one.Attrs, two.Attrs = shared.Attrs[:1], shared.Attrs[:2]
	if tree.Same(one, two) || tree.Same(two, one) || tree.Same(one, shared) {
		t.Error("Same of a front of the same attributes: true")
	}
}

// P8.1: how many nodes, of what may not be, too.
func TestCount(t *testing.T) {
	for _, c := range []struct {
		x    api.Tree
		want int
	}{
		{api.Tree{}, 1}, {tx("x"), 1}, {el("p"), 1}, {el("br"), 1}, {at(key(el("p"), "k"), eight()...), 1}, {el("p", tx("x"), tx("y")), 3}, {el("p", tx("x"), tx("x")), 3},
		{el("p", api.Tree{}), 2}, {el("p", el("p", el("p"))), 3}, {el("p", el("p", tx("x")), el("p", tx("x"), tx("y"))), 6}, {deep(1, tx("x")), 4}, {deep(100, tx("x")), 301},
		{el("br", tx("x")), 2}, {with(tx("x"), tx("y"), el("P")), 3}, {el("p", times(1000, func(int) api.Tree { return el("p", tx("x")) })...), 2001},
	} {
		if got := tree.Count(c.x); got != c.want {
			t.Errorf("Count(%.200s): %d, not %d", show(c.x), got, c.want)
		}
	}
	for _, x := range append(append(maybe(), maynot()...), others()...) {
		for _, y := range append(below(x), x) {
			if got, want := tree.Count(y), len(nodes(y)); got != want {
				t.Errorf("Count of a tree with %s below: %d, not %d", show(x), got, want)
			}
		}
	}
}

// has holds what Of tells of a node.
func has(t *testing.T, d *dom.Doc, id int, want api.Tree) {
	t.Helper()
	was := state(d)
	got, ok := tree.Of(d, id)
	if !ok || show(got) != show(want) || !tree.Same(got, want) {
		t.Errorf("Of(%d): %s, %v, not %s", id, show(got), ok, show(want))
	}
	if state(d) != was {
		t.Errorf("Of(%d) changed the document: %s, not %s", id, state(d), was)
	}
}

// hasNot holds that Of tells of nothing.
func hasNot(t *testing.T, d *dom.Doc, id int) {
	t.Helper()
	if got, ok := tree.Of(d, id); ok || show(got) != show(api.Tree{}) {
		t.Errorf("Of(%d): %s, %v, not none", id, show(got), ok)
	}
}

// P8.1: of each kind of node, by hand: the root, texts, one without Kids, a void one, those that are nowhere, or below one that is.
func TestOf(t *testing.T) {
	d := a(t, 20)
	four := key(el("p", tx(""), el("b")), "k")
	five := at(el("br"), static("c", ""))
	seven := at(el("p", tx("x<y"), four, five), plain("a", "1"), static("b", "2"))
	for id, want := range map[int]api.Tree{
		1: el("root", seven, el("div"), tx("y")), 2: el("div"), 3: tx("x<y"), 4: four, 5: five, 6: tx(""), 7: seven, 8: tx("y"), 9: el("p", tx("z")), 10: el("b"), 11: tx("z"),
	} {
		has(t, d, id, want)
	}
	for _, id := range append([]int{0, 12, 13, 14}, far...) {
		hasNot(t, d, id)
	}
	// As it is, once it is changed; what is gone isn't there.
	for _, r := range []api.Rec{put(5, 2, 0), {Op: api.Data, Id: 6, Text: "new"}, attrs(7), attrs(1, plain("r", "1")), put(9, 4, 6), gone(3)} {
		if err := d.Apply(r); err != nil {
			t.Fatal(err)
		}
	}
	four = key(el("p", el("p", tx("z")), tx("new"), el("b")), "k")
	has(t, d, 1, at(el("root", el("p", four), el("div", five), tx("y")), plain("r", "1")))
	hasNot(t, d, 3)
	if err := d.Apply(gone(4)); err != nil {
		t.Fatal(err)
	}
	has(t, d, 7, el("p"))
	for _, id := range []int{4, 6, 9, 10, 11} {
		hasNot(t, d, id)
	}
	has(t, fresh(t, 1), 1, el("root"))
}

// P8.1: of a nil document nothing is there.
func TestOfNil(t *testing.T) {
	for _, id := range append([]int{0, 1, 2}, far...) {
		hasNot(t, nil, id)
	}
}

// P8.1: as wide, and as deep, as a document may be.
func TestOfGreat(t *testing.T) {
	wide, long := fresh(t, 200), fresh(t, 200)
	var x api.Tree
	for id := 2; id <= 200; id++ {
		parent := id - 1
		for _, err := range []error{wide.Apply(text(id, fmt.Sprint(id))), wide.Apply(put(id, 1, 0)), long.Apply(keyed(id, "p", fmt.Sprint(id))), long.Apply(put(id, parent, 0))} {
			if err != nil {
				t.Fatal(err)
			}
		}
	}
	has(t, wide, 1, el("root", times(199, func(i int) api.Tree { return tx(fmt.Sprint(i + 2)) })...))
	for id := 200; id >= 2; id-- {
		if id == 200 {
			x = key(el("p"), "200")
		} else {
			x = key(el("p", x), fmt.Sprint(id))
		}
		has(t, long, id, x)
	}
	has(t, long, 1, el("root", x))
}

// changes are those that build a tree, if nothing fails: told by a list of what is left, not by a call to itself.
func changes(next, parent, before int, x api.Tree) []api.Rec {
	type place struct {
		x              api.Tree
		parent, before int
	}
	var l []api.Rec
	for left := []place{{x, parent, before}}; len(left) > 0; next++ {
		p := left[0]
		left = left[1:]
		l = append(l, api.Rec{Op: api.Make, Id: next, Tag: p.x.Tag, Text: p.x.Text, Key: p.x.Key}, put(next, p.parent, p.before))
		if len(p.x.Attrs) > 0 {
			l = append(l, attrs(next, slices.Clone(p.x.Attrs)...))
		}
		left = append(times(len(p.x.Kids), func(i int) place { return place{p.x.Kids[i], next, 0} }), left...)
	}
	return l
}

// made is a document with a log, beside one to which each change is applied by hand.
type made struct {
	d, first, twin *dom.Doc
	l              *mut.Log
	done           []api.Rec
}

func begin(d *dom.Doc) *made {
	return &made{d: d, first: d.Clone(), twin: d.Clone(), l: mut.New(d)}
}

// build builds a tree, and holds what is told, what is there, and what is in the log against the same by hand.
func (m *made) build(t *testing.T, parent, before int, x api.Tree) (int, error) {
	t.Helper()
	id, want, next := m.d.Next(), api.Code(0), m.d.Next()
	was := show(x)
	if may(x) {
		for _, r := range changes(next, parent, before, x) {
			if err := m.twin.Apply(r); err != nil {
				want = err.(api.Code)
				break
			}
			m.done = append(m.done, r)
		}
	} else {
		want = api.ErrArg
	}
	if want != 0 {
		id = 0
	}
	got, err := tree.Build(m.l, m.d, parent, before, x)
	if got != id || !is(err, want) {
		t.Errorf("Build at %d before %d of %.500s: %d, %v, not %d, %v", parent, before, was, got, err, id, want)
	}
	if show(x) != was {
		t.Errorf("Build changed the tree: %.500s, not %.500s", show(x), was)
	}
	m.agree(t, fmt.Sprintf("behind Build at %d before %d of %.500s", parent, before, was))
	if err == nil && want == 0 {
		m.built(t, id, parent, before, x)
	}
	return got, err
}

// agree holds the document and the log against what was done by hand.
func (m *made) agree(t *testing.T, when string) {
	t.Helper()
	if got, want := state(m.d), state(m.twin); got != want {
		t.Errorf("%s: the document: %s, not %s", when, got, want)
	}
	if got, want := showRecs(m.l.All()), showRecs(m.done); !slices.Equal(got, want) {
		t.Errorf("%s: the log: %q, not %q", when, got, want)
	}
	c := m.first.Clone()
	if err := mut.Replay(c, m.l.All()); err != nil || state(c) != state(m.d) {
		t.Errorf("%s: replayed: %v", when, err)
	}
}

// built holds P8.4: it is told as it was; and that it is where it was to be.
func (m *made) built(t *testing.T, id, parent, before int, x api.Tree) {
	t.Helper()
	has(t, m.d, id, x)
	n, _ := m.d.Node(id)
	p, _ := m.d.Node(parent)
	i := slices.Index(p.Kids, id)
	if n.Parent != parent || i < 0 || before == 0 && i != len(p.Kids)-1 || before != 0 && p.Kids[i+1] != before {
		t.Errorf("%d is below %d, whose Kids are %v; not at %d before %d", id, n.Parent, p.Kids, parent, before)
	}
	if got := m.d.Next() - id; got != tree.Count(x) {
		t.Errorf("%d nodes were made, not %d", got, tree.Count(x))
	}
}

// branchy is a tree of each kind of node, with seven of them.
func branchy() api.Tree {
	return key(at(el("p", tx("a<b"), el("b", tx("in"), tx("")), key(at(el("img"), plain("src", "x"), static("w", "1")), "i"), el("p")), static("s", "1"), plain("d", "2")), "k")
}

// P8.2: the changes, in order, by hand.
func TestBuildChanges(t *testing.T) {
	d := a(t, 30)
	l := mut.New(d)
	if err := l.Do(element(13, "hr")); err != nil {
		t.Fatal(err)
	}
	id, err := tree.Build(l, d, 7, 5, branchy())
	if id != 14 || err != nil {
		t.Errorf("Build: %d, %v", id, err)
	}
	want := []api.Rec{
		element(13, "hr"),
		keyed(14, "p", "k"), put(14, 7, 5), attrs(14, static("s", "1"), plain("d", "2")),
		text(15, "a<b"), put(15, 14, 0),
		element(16, "b"), put(16, 14, 0), text(17, "in"), put(17, 16, 0), text(18, ""), put(18, 16, 0),
		keyed(19, "img", "i"), put(19, 14, 0), attrs(19, plain("src", "x"), static("w", "1")),
		element(20, "p"), put(20, 14, 0),
	}
	if got := showRecs(l.All()); !slices.Equal(got, showRecs(want)) {
		t.Errorf("the log: %q, not %q", got, showRecs(want))
	}
	for id, kids := range map[int][]int{7: {3, 4, 14, 5}, 14: {15, 16, 19, 20}, 16: {17, 18}, 15: nil, 19: nil, 20: nil, 1: {7, 2, 8}} {
		if n, ok := d.Node(id); !ok || !slices.Equal(n.Kids, kids) {
			t.Errorf("Kids of %d: %v, not %v", id, n.Kids, kids)
		}
	}
	if d.Next() != 21 || d.Free() != 30-11-8 || d.Focus() != 6 {
		t.Errorf("Next %d, Free %d, the focus %d", d.Next(), d.Free(), d.Focus())
	}
	has(t, d, 14, branchy())
}

// P8.2: a text, and an element without attributes: a Make and a Put, no more.
func TestBuildOne(t *testing.T) {
	for _, c := range []struct {
		x    api.Tree
		want []api.Rec
	}{
		{api.Tree{}, []api.Rec{text(2, ""), put(2, 1, 0)}},
		{tx("x"), []api.Rec{text(2, "x"), put(2, 1, 0)}},
		{api.Tree{Tag: "p", Attrs: []api.Attr{}, Kids: []api.Tree{}}, []api.Rec{element(2, "p"), put(2, 1, 0)}},
		{key(el("br"), "k"), []api.Rec{keyed(2, "br", "k"), put(2, 1, 0)}},
		{at(el("br"), plain("a", "")), []api.Rec{element(2, "br"), put(2, 1, 0), attrs(2, plain("a", ""))}},
		{el("root"), []api.Rec{element(2, "root"), put(2, 1, 0)}},
	} {
		d := fresh(t, 2)
		l := mut.New(d)
		if id, err := tree.Build(l, d, 1, 0, c.x); id != 2 || err != nil {
			t.Errorf("Build of %s: %d, %v", show(c.x), id, err)
		}
		if got := showRecs(l.All()); !slices.Equal(got, showRecs(c.want)) {
			t.Errorf("Build of %s: %q, not %q", show(c.x), got, showRecs(c.want))
		}
		has(t, d, 1, el("root", c.x))
	}
}

// refusal is a place of a's, and the error there.
type refusal struct {
	parent, before int
	err            api.Code
}

// P8.2: at each kind of place, done or refused, by hand; 13 is what is built itself.
func TestBuildPlaces(t *testing.T) {
	for _, c := range []refusal{
		{1, 0, 0}, {1, 7, 0}, {1, 2, 0}, {1, 8, 0}, {7, 0, 0}, {7, 3, 0}, {7, 5, 0}, {4, 0, 0}, {4, 6, 0}, {10, 0, 0}, {2, 0, 0}, {9, 0, 0}, {9, 11, 0},
		{3, 0, api.ErrKind}, {6, 0, api.ErrKind}, {11, 0, api.ErrKind}, {5, 0, api.ErrKind}, {3, 8, api.ErrKind}, {5, 8, api.ErrKind},
		{0, 0, api.ErrNone}, {-1, 0, api.ErrNone}, {12, 0, api.ErrNone}, {14, 0, api.ErrNone}, {1, 12, api.ErrNone}, {1, 14, api.ErrNone}, {1, -1, api.ErrNone},
		{3, 12, api.ErrNone}, {5, 14, api.ErrNone}, {12, 12, api.ErrNone},
		{1, 1, api.ErrArg}, {1, 3, api.ErrArg}, {1, 9, api.ErrArg}, {7, 6, api.ErrArg}, {4, 5, api.ErrArg}, {2, 7, api.ErrArg}, {9, 8, api.ErrArg}, {1, 13, api.ErrArg},
	} {
		for _, x := range []api.Tree{tx("x"), el("br"), at(el("p"), plain("a", "1")), branchy()} {
			m := begin(a(t, 30))
			free := m.d.Free()
			if id, err := m.build(t, c.parent, c.before, x); !is(err, c.err) || (id != 13) != (c.err != 0) {
				t.Errorf("Build at %d before %d: %d, %v, not %v", c.parent, c.before, id, err, c.err)
			}
			if c.err == 0 {
				continue
			}
			// What was done stays: it was made, and is nowhere.
			n, ok := m.d.Node(13)
			if all := m.l.All(); !ok || n.Parent != 0 || len(n.Kids)+len(n.Attrs) != 0 || m.d.Free() != free-1 || len(all) != 1 || all[0].Op != api.Make {
				t.Errorf("Build at %d before %d: node %v, log %v", c.parent, c.before, n, all)
			}
		}
	}
}

// P8.2: below itself: its own identity is there once it is made, so it is the change's error that is told.
func TestBuildInItself(t *testing.T) {
	for _, c := range []struct {
		x    api.Tree
		want api.Code
	}{{el("p"), api.ErrCycle}, {branchy(), api.ErrCycle}, {tx("x"), api.ErrKind}, {el("br"), api.ErrKind}} {
		m := begin(a(t, 30))
		if id, err := m.build(t, 13, 0, c.x); id != 0 || !is(err, c.want) {
			t.Errorf("Build of %s at itself: %d, %v, not %v", show(c.x), id, err, c.want)
		}
		if id, err := m.build(t, 14, 14, c.x); id != 0 || err == nil {
			t.Errorf("Build of %s at itself, before itself: %d, %v", show(c.x), id, err)
		}
	}
}

// P8.2: at all places of a document, with room for all of a tree, for some of it, and for none.
func TestBuildAllPlaces(t *testing.T) {
	for _, first := range []*dom.Doc{full(t), a(t, 12), a(t, 13), a(t, 17), a(t, 18), a(t, 30)} {
		for parent := -1; parent <= 15; parent++ {
			for before := -1; before <= 15; before++ {
				for _, x := range []api.Tree{tx("x"), el("img"), el("p", tx("x")), branchy(), el("P"), el("p", tx("\n"))} {
					begin(first.Clone()).build(t, parent, before, x)
				}
			}
		}
	}
}

// P8.2: a tree that may not be: ErrArg ahead of any other error, and nothing is done, wherever it is wrong.
func TestBuildMayNot(t *testing.T) {
	for _, x := range maynot() {
		for _, y := range append(below(x)[:8], x) {
			for _, d := range []*dom.Doc{full(t), a(t, 12), a(t, 200)} {
				was := state(d)
				l := mut.New(d)
				for _, place := range [][2]int{{1, 0}, {1, 7}, {3, 0}, {12, 0}, {1, 12}, {7, 8}, {13, 13}} {
					if id, err := tree.Build(l, d, place[0], place[1], y); id != 0 || !is(err, api.ErrArg) {
						t.Errorf("Build of %.300s at %v: %d, %v", show(y), place, id, err)
					}
				}
				if len(l.All()) != 0 || state(d) != was {
					t.Errorf("Build of %.300s: %v, %s, not %s", show(y), l.All(), state(d), was)
				}
			}
		}
	}
}

// P8.2: no log, or no document: ErrArg, and nothing is done.
func TestBuildNil(t *testing.T) {
	for _, x := range append(maybe(), maynot()...) {
		d := a(t, 30)
		was := state(d)
		l := mut.New(d)
		for _, place := range [][2]int{{1, 0}, {1, 7}, {3, 0}, {12, 0}, {0, 0}, {math.MinInt, math.MaxInt}} {
			for _, c := range []struct {
				l *mut.Log
				d *dom.Doc
			}{{nil, d}, {l, nil}, {nil, nil}, {mut.New(nil), nil}, {mut.New(nil), d}} {
				if id, err := tree.Build(c.l, c.d, place[0], place[1], x); id != 0 || !is(err, api.ErrArg) {
					t.Errorf("Build of %.300s, log %v, document %v, at %v: %d, %v", show(x), c.l != nil, c.d != nil, place, id, err)
				}
			}
		}
		if state(d) != was || len(l.All()) != 0 {
			t.Errorf("Build of %.300s, without a log, or a document: %v, %s", show(x), l.All(), state(d))
		}
	}
}

// P8.2: room for some of a tree: what is there then, by hand.
func TestBuildFull(t *testing.T) {
	x := at(el("p", tx("a"), at(el("b", tx("b"), tx("c")), plain("y", "1")), tx("d")), static("x", "1"))
	steps := [][]api.Rec{
		{element(2, "p"), put(2, 1, 0), attrs(2, static("x", "1"))}, {text(3, "a"), put(3, 2, 0)}, {element(4, "b"), put(4, 2, 0), attrs(4, plain("y", "1"))},
		{text(5, "b"), put(5, 4, 0)}, {text(6, "c"), put(6, 4, 0)}, {text(7, "d"), put(7, 2, 0)},
	}
	told := []api.Tree{
		el("root"), el("root", at(el("p"), static("x", "1"))), el("root", at(el("p", tx("a")), static("x", "1"))),
		el("root", at(el("p", tx("a"), at(el("b"), plain("y", "1"))), static("x", "1"))),
		el("root", at(el("p", tx("a"), at(el("b", tx("b")), plain("y", "1"))), static("x", "1"))),
		el("root", at(el("p", tx("a"), at(el("b", tx("b"), tx("c")), plain("y", "1"))), static("x", "1"))),
		el("root", x),
	}
	for room := 1; room <= 8; room++ {
		d := fresh(t, room)
		l := mut.New(d)
		n := min(room-1, len(steps))
		id, err := tree.Build(l, d, 1, 0, x)
		if n == len(steps) && (id != 2 || err != nil) || n < len(steps) && (id != 0 || !is(err, api.ErrFull)) {
			t.Errorf("Build in a room of %d: %d, %v", room, id, err)
		}
		if got, want := showRecs(l.All()), showRecs(slices.Concat(steps[:n]...)); !slices.Equal(got, want) {
			t.Errorf("Build in a room of %d: %q, not %q", room, got, want)
		}
		has(t, d, 1, told[n])
		if d.Next() != n+2 || d.Free() != room-1-n {
			t.Errorf("Build in a room of %d: Next %d, Free %d", room, d.Next(), d.Free())
		}
	}
}

// P8.2, P8.4: of each tree that may be, in as much room as there is, and again: identities that are new, all in the log.
func TestBuildEach(t *testing.T) {
	for _, x := range maybe() {
		for _, y := range append(below(x)[:9], x) {
			m := begin(a(t, 60))
			for _, place := range [][2]int{{1, 0}, {7, 5}, {9, 11}} {
				m.build(t, place[0], place[1], y)
			}
		}
		if t.Failed() {
			t.Fatalf("of %s", show(x))
		}
	}
}

// P8.2, P8.4: as wide, and as deep, as a document may be; by one more it doesn't fit.
func TestBuildGreat(t *testing.T) {
	for _, x := range []api.Tree{
		deep(66, tx("x")), el("p", times(198, func(i int) api.Tree { return tx(fmt.Sprint(i)) })...),
		el("p", times(66, func(i int) api.Tree { return at(el("p", tx("x"), el("br")), eight()...) })...),
	} {
		if n := tree.Count(x); n != 199 {
			t.Fatalf("%d nodes", n)
		}
		if id, err := begin(fresh(t, 200)).build(t, 1, 0, x); id != 2 || err != nil {
			t.Errorf("Build of 199 nodes: %d, %v", id, err)
		}
		if id, err := begin(fresh(t, 199)).build(t, 1, 0, x); id != 0 || !is(err, api.ErrFull) {
			t.Errorf("Build of 199 nodes in a room of 199: %d, %v", id, err)
		}
		if id, err := begin(fresh(t, 200)).build(t, 1, 0, el("p", x)); id != 0 || !is(err, api.ErrFull) {
			t.Errorf("Build of 200 nodes: %d, %v", id, err)
		}
	}
}

// P8.2, P8.4: one in another that was built, and ahead of it; what goes leaves room, but no identities.
func TestBuildInBuilt(t *testing.T) {
	m := begin(fresh(t, 30))
	must := func(r api.Rec) {
		t.Helper()
		if m.l.Do(r) != nil || m.twin.Apply(r) != nil {
			t.Fatalf("Do(%#v)", r)
		}
		m.done = append(m.done, r)
	}
	one, err := m.build(t, 1, 0, branchy())
	if one != 2 || err != nil {
		t.Fatalf("Build: %d, %v", one, err)
	}
	two, _ := m.build(t, one, one+1, branchy())
	three, _ := m.build(t, 1, one, el("hr"))
	if two != 9 || three != 16 {
		t.Errorf("Build: %d, %d, not 9, 16", two, three)
	}
	x := branchy()
	x.Kids = append([]api.Tree{branchy()}, x.Kids...)
	has(t, m.d, 1, el("root", el("hr"), x))
	must(gone(two))
	if id, err := m.build(t, one, one+1, el("p", tx("z"))); id != 17 || err != nil {
		t.Errorf("Build behind Gone: %d, %v, not 17", id, err)
	}
	must(put(17, 1, 16))
	has(t, m.d, 1, el("root", el("p", tx("z")), el("hr"), branchy()))
	m.agree(t, "at the end")
}

// P8.2: all changes are the log's: of two logs of a document each has its own.
func TestBuildByLog(t *testing.T) {
	d := fresh(t, 10)
	one, other := mut.New(d), mut.New(d)
	_, err := tree.Build(one, d, 1, 0, el("p", tx("x")))
	_, otherErr := tree.Build(other, d, 2, 3, tx("y"))
	if err != nil || otherErr != nil {
		t.Fatal(err, otherErr)
	}
	for _, c := range []struct {
		l    *mut.Log
		want []api.Rec
	}{{one, []api.Rec{element(2, "p"), put(2, 1, 0), text(3, "x"), put(3, 2, 0)}}, {other, []api.Rec{text(4, "y"), put(4, 2, 3)}}} {
		if got := showRecs(c.l.All()); !slices.Equal(got, showRecs(c.want)) {
			t.Errorf("the log: %q, not %q", got, showRecs(c.want))
		}
	}
}

var bad = api.Attr{Name: "bad", Value: "\n", Static: true}

// spoil overwrites all that a tree's lists have, and what lies behind their ends, the lowest ones first.
func spoil(x *api.Tree) {
	kids := x.Kids[:cap(x.Kids)]
	for i := range kids {
		spoil(&kids[i])
		kids[i] = tx("bad")
	}
	list := x.Attrs[:cap(x.Attrs)]
	for i := range list {
		list[i] = bad
	}
}

// each tells all nodes of a tree, as they stand in its lists.
func each(x *api.Tree) []*api.Tree {
	l := []*api.Tree{x}
	for i := range x.Kids {
		l = append(l, each(&x.Kids[i])...)
	}
	return l
}

// P8.3: what Of told, written to, changes no document, and nothing that was told another time.
func TestToldIsNew(t *testing.T) {
	d := a(t, 30)
	was := state(d)
	for _, id := range d.Ids() {
		told, _ := tree.Of(d, id)
		again, _ := tree.Of(d, id)
		want := show(again)
		spoil(&told)
		if got := state(d); got != was {
			t.Errorf("what Of(%d) told was changed: %s, not %s", id, got, was)
		}
		if got := show(again); got != want {
			t.Errorf("two told of %d share memory: %s, not %s", id, got, want)
		}
		has(t, d, id, again)
	}
	// What was told stays, whatever is done.
	told, _ := tree.Of(d, 1)
	want := show(told)
	for _, r := range []api.Rec{attrs(7, plain("q", "q"), plain("r", "r")), {Op: api.Data, Id: 3, Text: "q"}, put(5, 7, 3), gone(4), gone(7)} {
		if err := d.Apply(r); err != nil {
			t.Fatal(err)
		}
		if got := show(told); got != want {
			t.Errorf("what was told was changed: %s, not %s", got, want)
		}
	}
}

// P8.3: no two lists of a tree that is told share memory, nor what is behind their ends.
func TestToldApart(t *testing.T) {
	d := a(t, 60)
	if _, err := tree.Build(mut.New(d), d, 7, 3, el("b", branchy(), branchy(), at(el("p"), eight()...), at(el("p"), eight()...))); err != nil {
		t.Fatal(err)
	}
	all, _ := tree.Of(d, 1)
	for n := range each(&all) {
		told, _ := tree.Of(d, 1)
		want, _ := tree.Of(d, 1)
		l, wants := each(&told), each(&want)
		list := l[n].Attrs[:cap(l[n].Attrs)]
		for i := range list {
			list[i] = bad
		}
		_ = append(l[n].Kids, tx("bad"))
		l[n].Attrs, wants[n].Attrs = nil, nil
		if show(told) != show(want) {
			t.Errorf("the lists of node %d were changed: %s, not %s", n, show(told), show(want))
		}
	}
}

// roomy is branchy with lists that have more behind their ends.
func roomy() api.Tree {
	x := branchy()
	// The lowest ones first: a list that is longer may be elsewhere, with copies of what is in it.
	for _, n := range slices.Backward(each(&x)) {
		if n.Tag != "" && n.Tag != "img" {
			n.Kids = append(n.Kids, tx("behind"))[:len(n.Kids)]
		}
		if n.Tag != "" {
			n.Attrs = append(n.Attrs, plain("behind", "x"))[:len(n.Attrs)]
		}
	}
	return x
}

// whole tells a tree, and what lies behind the ends of its lists.
func whole(x api.Tree) string {
	s := show(x) + showAttrs(x.Attrs[:cap(x.Attrs)])
	for _, kid := range x.Kids[:cap(x.Kids)] {
		s += whole(kid)
	}
	return s
}

// P8.3, R2: what was handed in is not changed, also behind its lists' ends, and is neither the document's nor the log's memory.
func TestHandedInIsKept(t *testing.T) {
	x, y := roomy(), roomy()
	want := whole(x)
	d, small := a(t, 40), fresh(t, 4)
	l := mut.New(d)
	for _, place := range [][2]int{{1, 0}, {7, 5}, {3, 0}, {1, 12}} {
		_, _ = tree.Build(l, d, place[0], place[1], x)
	}
	_, err := tree.Build(mut.New(small), small, 1, 0, x)
	if !tree.May(x) || tree.Count(x) != 7 || !tree.Same(x, y) || !is(err, api.ErrFull) {
		t.Errorf("May, Count, Same, or Build: %v", err)
	}
	if whole(x) != want || whole(y) != want {
		t.Errorf("what was handed in was changed: %s, %s, not %s", whole(x), whole(y), want)
	}
	was, log := state(d), showRecs(l.All())
	spoil(&x)
	if got := state(d); got != was {
		t.Errorf("the tree is the document's memory: %s, not %s", got, was)
	}
	if got := showRecs(l.All()); !slices.Equal(got, log) {
		t.Errorf("the tree is the log's memory: %q, not %q", got, log)
	}
}

// P8.2: a tree of which several parts are one and the same memory is built as any other one.
func TestBuildShared(t *testing.T) {
	part := branchy()
	twice := []api.Tree{part, part}
	x := el("p", el("b", twice...), part, el("b", twice...))
	m := begin(fresh(t, 60))
	if id, err := m.build(t, 1, 0, x); id != 2 || err != nil {
		t.Errorf("Build: %d, %v", id, err)
	}
	// The document's parts are apart.
	if err := m.d.Apply(attrs(4)); err != nil {
		t.Fatal(err)
	}
	if n, ok := m.d.Node(11); !ok || len(n.Attrs) != 2 {
		t.Errorf("11: %v", n)
	}
}

// P8.4: what was told of a document is built elsewhere, and told there as it was.
func TestBuiltIsTold(t *testing.T) {
	d := a(t, 30)
	if _, err := tree.Build(mut.New(d), d, 4, 10, branchy()); err != nil {
		t.Fatal(err)
	}
	for _, id := range d.Ids() {
		x, _ := tree.Of(d, id)
		if !tree.May(x) {
			t.Errorf("Of(%d): %s, which may not be", id, show(x))
		}
		m := begin(fresh(t, 60))
		if got, err := m.build(t, 1, 0, x); got != 2 || err != nil {
			t.Errorf("Build of %s: %d, %v", show(x), got, err)
		}
		if got, err := m.build(t, 1, 2, x); err != nil || got != 2+tree.Count(x) {
			t.Errorf("Build of %s, again: %d, %v", show(x), got, err)
		}
		has(t, m.d, 1, el("root", x, x))
	}
}

// someTexts are some that may be texts, or names, and some that may not be.
var someTexts = []string{"", "", "", "a", "p", "br", "hr", "root", "1a", "A", "a b", "~", "\n", "\x7f", "\xff", rep("a", 12), rep("a", 13), rep("a", 60), rep("a", 61)}

// some is a tree of few levels, which mostly may be.
func some(pick func(n int) int, levels int) api.Tree {
	str := func() string { return someTexts[pick(len(someTexts))] }
	if pick(40) == 0 {
		return api.Tree{Tag: str(), Text: str(), Key: str(), Attrs: times(pick(3), func(int) api.Attr { return plain(str(), str()) }), Kids: times(pick(3), func(int) api.Tree { return tx(str()) })}
	}
	if levels == 0 || pick(3) == 0 {
		return tx([]string{"", "x", "y z"}[pick(3)])
	}
	x := api.Tree{Tag: []string{"p", "b", "br", "img", "div"}[pick(5)]}
	if pick(3) == 0 {
		x.Key = []string{"k", "l m", "1"}[pick(3)]
	}
	for i := range pick(4) {
		x.Attrs = append(x.Attrs, api.Attr{Name: string(rune('a' + i)), Value: fmt.Sprint(pick(3)), Static: pick(2) == 0})
	}
	if x.Tag != "br" && x.Tag != "img" {
		x.Kids = times(pick(5), func(int) api.Tree { return some(pick, levels-1) })
	}
	return x
}

// run builds trees in a document, with some that go again, and holds P8.1 to P8.4 all along.
func run(t *testing.T, d *dom.Doc, pick func(n int) int, more func() bool) {
	m := begin(d)
	old := tx("x")
	for more() && !t.Failed() {
		x := some(pick, 4)
		if tree.May(x) != may(x) || tree.Count(x) != len(nodes(x)) || tree.Same(x, old) != (show(x) == show(old)) || tree.Same(old, x) != (show(x) == show(old)) {
			t.Errorf("May, Count or Same of %s, with %s", show(x), show(old))
		}
		old = x
		id := func() int { return pick(d.Next()+2) - 1 }
		parent, before := id(), 0
		if n, _ := d.Node(parent); len(n.Kids) > 0 && pick(3) > 0 {
			before = n.Kids[pick(len(n.Kids))]
		} else if pick(5) == 0 {
			before = id()
		}
		m.build(t, parent, before, x)
		if r := gone(id()); pick(2) == 0 && m.l.Do(r) == nil {
			m.done = append(m.done, r)
			_ = m.twin.Apply(r)
		}
		if pick(20) == 0 {
			m = begin(d)
		}
	}
}

// P8.1 to P8.4: long runs by a fixed seed.
func TestRuns(t *testing.T) {
	r := rand.New(rand.NewSource(8))
	for n := range 60 {
		left := 60
		d := fresh(t, 1+r.Intn(60))
		if n%3 == 0 {
			d = a(t, 12+r.Intn(90))
		}
		run(t, d, r.Intn, func() bool { left--; return left >= 0 })
		if t.Failed() {
			t.Fatalf("run %d", n)
		}
	}
}

// P1: each call ends, at all numbers and texts, and with trees that are as long, as wide and as deep as the document's limits let them be.
func TestAnyArguments(t *testing.T) {
	long := rep("x", 1<<20)
	chain := tx("x")
	for range 1<<16 - 2 {
		chain = el("p", chain)
	}
	wide := el("p", make([]api.Tree, 1<<16)...)
	for _, c := range []struct {
		x     api.Tree
		may   bool
		count int
	}{
		{chain, true, 1<<16 - 1}, {wide, true, 1<<16 + 1}, {tx(long), false, 1}, {el(long), false, 1}, {key(el("p"), long), false, 1}, {said(el("p"), long), false, 1},
		{at(el("p"), make([]api.Attr, 1<<16)...), false, 1}, {at(el("p"), plain(long, long)), false, 1}, {with(tx("x"), wide), false, 1<<16 + 2},
	} {
		if tree.May(c.x) != c.may || tree.Count(c.x) != c.count || !tree.Same(c.x, c.x) || tree.Same(c.x, el("p", c.x)) {
			t.Errorf("May %v, Count %d, Same %v, not %v, %d", tree.May(c.x), tree.Count(c.x), tree.Same(c.x, c.x), c.may, c.count)
		}
		d := fresh(t, 200)
		l := mut.New(d)
		id, err := tree.Build(l, d, 1, 0, c.x)
		if id != 0 || c.may && (!is(err, api.ErrFull) || d.Free() != 0 || len(l.All()) != 2*199) || !c.may && (!is(err, api.ErrArg) || d.Free() != 199) {
			t.Errorf("Build: %d, %v, %d changes, Free %d", id, err, len(l.All()), d.Free())
		}
	}
	for _, parent := range append([]int{0, 1, 2}, far...) {
		for _, before := range append([]int{0, 1, 2}, far...) {
			begin(fresh(t, 3)).build(t, parent, before, el("p", tx("x")))
		}
	}
}

// P1: a log of another document isn't what the chapter speaks of; still, it ends.
func TestBuildOfAnother(t *testing.T) {
	for _, room := range []int{1, 3, 200} {
		for _, d := range []*dom.Doc{fresh(t, room), a(t, 20)} {
			other := a(t, 20)
			_, _ = tree.Build(mut.New(other), d, 1, 0, branchy())
			_, _ = tree.Build(mut.New(d), other, 1, 0, branchy())
		}
	}
}

// P1: documents that differ share nothing, and a tree is only looked at: goroutines may build one at once (go test -race sees it).
func TestApartAtOnce(t *testing.T) {
	x := branchy()
	first := a(t, 200)
	ends := make(chan string)
	for range 4 {
		d := first.Clone()
		go func() {
			l := mut.New(d)
			for range 20 {
				if _, err := tree.Build(l, d, 4, 10, x); err != nil || !tree.May(x) || tree.Count(x) != 7 {
					ends <- "it isn't built"
					return
				}
			}
			got, _ := tree.Of(d, 1)
			ends <- fmt.Sprint(tree.Count(got))
		}()
	}
	for range 4 {
		if got := <-ends; got != "149" {
			t.Error(got)
		}
	}
}

// P1: a goal for go test -fuzz; its seeds run in every test. The first byte is the room, the others pick what is done.
func FuzzTree(f *testing.F) {
	for _, s := range []string{
		"", "\x00", "\x01", "\xc8\x00", "\xc9", "\x05\x01\x00\x01", "\x20" + rep("\x01\x01\x01\x00\x02\x03\x02\x01", 9), "\xc8" + rep("\x01\x02\x00\x04\x03\x01\x01", 20),
		"\x09" + rep("\x00\x01\x02", 30),
	} {
		f.Add([]byte(s))
	}
	f.Fuzz(func(t *testing.T, in []byte) {
		if len(in) == 0 || len(in) > 300 {
			return
		}
		d, err := dom.New(int(in[0]))
		if err != nil {
			hasNot(t, d, int(in[0]))
			return
		}
		in = in[1:]
		pick := func(n int) int {
			if len(in) == 0 {
				return 0
			}
			x := int(in[0]) % n
			in = in[1:]
			return x
		}
		run(t, d, pick, func() bool { return len(in) > 0 })
	})
}
