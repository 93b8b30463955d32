package dom_test

import (
	"fmt"
	"math"
	"math/rand"
	"slices"
	"strings"
	"testing"

	"placket/api"
	"placket/dom"
)

// plain is the chapter's words, told another way than the program's: nodes know their Parent alone, and one list of all
// nodes tells who is ahead of whom; children are those of the list that have that Parent.
type plain struct {
	room, last, focus int
	nodes             map[int]plainNode
	line              []int
}

type plainNode struct {
	parent         int
	tag, text, key string
	attrs          string
	note           int64
}

func newPlain(room int) *plain {
	return &plain{room: room, last: 1, nodes: map[int]plainNode{1: {tag: "root"}}, line: []int{1}}
}

func (p *plain) clone() *plain {
	c := *p
	c.line = slices.Clone(p.line)
	c.nodes = map[int]plainNode{}
	for id, n := range p.nodes {
		c.nodes[id] = n
	}
	return &c
}

func (p *plain) has(id int) bool {
	_, ok := p.nodes[id]
	return ok
}

// within are a node, and all below it.
func (p *plain) within(id int) []int {
	all := []int{id}
	for kid, n := range p.nodes {
		if n.parent == id {
			all = append(all, p.within(kid)...)
		}
	}
	return all
}

// plainText tells whether it may be a text.
func plainText(s string) bool {
	return len(s) <= 60 && strings.Trim(s, " !\"#$%&'()*+,-./0123456789:;<=>?@ABCDEFGHIJKLMNOPQRSTUVWXYZ[\\]^_`abcdefghijklmnopqrstuvwxyz{|}~") == "" && !strings.ContainsAny(s, "\t\n\r\x00\x1f\x7f")
}

func plainName(s string) bool {
	const first = "abcdefghijklmnopqrstuvwxyz"
	return len(s) >= 1 && len(s) <= 12 && strings.Contains(first, s[:1]) && strings.Trim(s, first+"0123456789-") == ""
}

func plainAttrs(l []api.Attr) bool {
	names := map[string]int{}
	for _, a := range l {
		names[a.Name]++
		if !plainName(a.Name) || !plainText(a.Value) {
			return false
		}
	}
	return len(l) <= 8 && len(names) == len(l)
}

// wrong tells the error of the first question that is answered by yes.
func wrong(asked ...any) api.Code {
	for i := 0; i < len(asked); i += 2 {
		if asked[i].(bool) {
			return asked[i+1].(api.Code)
		}
	}
	return 0
}

// apply does a change, and tells its error; 0 is none.
func (p *plain) apply(r api.Rec) api.Code {
	n := p.nodes[r.Id]
	element := n.tag != ""
	switch r.Op {
	case 1:
		of := r.Tag != "" && (!plainName(r.Tag) || !plainText(r.Key) || r.Text != "") || r.Tag == "" && (!plainText(r.Text) || r.Key != "")
		err := wrong(r.Id != p.last+1 || of, api.ErrArg, len(p.nodes) == p.room, api.ErrFull)
		if err == 0 {
			p.last++
			p.nodes[p.last] = plainNode{tag: r.Tag, text: r.Text, key: r.Key}
			p.line = append(p.line, p.last)
		}
		return err
	case 2:
		return p.put(r.Id, r.Parent, r.Before)
	case 3:
		err := wrong(!p.has(r.Id), api.ErrNone, r.Id == 1, api.ErrRoot)
		if err == 0 {
			for _, id := range p.within(r.Id) {
				delete(p.nodes, id)
				p.line = slices.DeleteFunc(p.line, func(i int) bool { return i == id })
			}
			if !p.has(p.focus) {
				p.focus = 0
			}
		}
		return err
	case 4:
		err := wrong(!p.has(r.Id), api.ErrNone, !element, api.ErrKind, !plainAttrs(r.Attrs), api.ErrArg)
		if err == 0 {
			n.attrs = showAttrs(r.Attrs)
			p.nodes[r.Id] = n
		}
		return err
	case 5:
		err := wrong(!p.has(r.Id), api.ErrNone, element, api.ErrKind, !plainText(r.Text), api.ErrArg)
		if err == 0 {
			n.text = r.Text
			p.nodes[r.Id] = n
		}
		return err
	}
	return api.ErrArg
}

func (p *plain) put(id, parent, before int) api.Code {
	below := p.nodes[parent].tag
	err := wrong(
		!p.has(id) || !p.has(parent) || before != 0 && !p.has(before), api.ErrNone,
		id == 1, api.ErrRoot,
		below == "" || below == "br" || below == "hr" || below == "img" || below == "input", api.ErrKind,
		before != 0 && p.nodes[before].parent != parent || before == id, api.ErrArg,
	)
	if err == 0 && slices.Contains(p.within(id), parent) {
		err = api.ErrCycle
	}
	if err != 0 {
		return err
	}
	n := p.nodes[id]
	n.parent = parent
	p.nodes[id] = n
	p.line = slices.DeleteFunc(p.line, func(i int) bool { return i == id })
	if before == 0 {
		p.line = append(p.line, id)
	} else {
		p.line = slices.Insert(p.line, slices.Index(p.line, before), id)
	}
	return 0
}

// show tells a node as the plain document has it.
func (p *plain) show(id int) string {
	n, ok := p.nodes[id]
	if !ok {
		return show(api.Node{}, false)
	}
	var kids []int
	for _, kid := range p.line {
		if p.nodes[kid].parent == id {
			kids = append(kids, kid)
		}
	}
	return fmt.Sprintf("%d below %d: %q %q %q, attrs %s, kids %v, note %d, true", id, n.parent, n.tag, n.text, n.key, n.attrs, kids, n.note)
}

func show(n api.Node, ok bool) string {
	return fmt.Sprintf("%d below %d: %q %q %q, attrs %s, kids %v, note %d, %v", n.Id, n.Parent, n.Tag, n.Text, n.Key, showAttrs(n.Attrs), n.Kids, n.Note, ok)
}

func showAttrs(l []api.Attr) string {
	s := ""
	for _, a := range l {
		s += fmt.Sprintf("%q=%q %v;", a.Name, a.Value, a.Static)
	}
	return s
}

// far are identities that no short run gives, the smallest and the greatest numbers among them.
var far = []int{-1, -2, -200, 201, 1 << 20, -1 << 20, math.MinInt32, math.MaxInt32, math.MinInt + 1, math.MinInt, math.MaxInt - 1, math.MaxInt, 1<<32 + 1}

// agree holds all that a document tells against the plain one.
func agree(t *testing.T, when string, d *dom.Doc, p *plain) {
	t.Helper()
	var ids []int
	for id := 1; id <= p.last; id++ {
		if p.has(id) {
			ids = append(ids, id)
		}
	}
	if got := d.Ids(); !slices.Equal(got, ids) {
		t.Errorf("%s: Ids: %v, not %v", when, got, ids)
	}
	if d.Next() != p.last+1 || d.Free() != p.room-len(ids) || d.Focus() != p.focus {
		t.Errorf("%s: Next %d, Free %d, Focus %d, not %d, %d, %d", when, d.Next(), d.Free(), d.Focus(), p.last+1, p.room-len(ids), p.focus)
	}
	for id := 0; id <= p.last+2; id++ {
		agreeAt(t, when, d, p, id)
	}
	for _, id := range far {
		agreeAt(t, when, d, p, id)
	}
	sound(t, when, d)
}

func agreeAt(t *testing.T, when string, d *dom.Doc, p *plain, id int) {
	t.Helper()
	if got, want := show(d.Node(id)), p.show(id); got != want {
		t.Errorf("%s: Node(%d): %s, not %s", when, id, got, want)
	}
}

// sound holds a document against P5.4, by what it tells alone.
func sound(t *testing.T, when string, d *dom.Doc) {
	t.Helper()
	ids := d.Ids()
	below := map[int]int{}
	for _, id := range ids {
		n, ok := d.Node(id)
		if !ok || n.Id != id {
			t.Errorf("%s: Node(%d): %v, %v", when, id, n, ok)
		}
		if len(n.Kids) > 0 && (n.Tag == "" || slices.Contains([]string{"br", "hr", "img", "input"}, n.Tag)) {
			t.Errorf("%s: %d is %q, and has Kids", when, id, n.Tag)
		}
		for _, kid := range n.Kids {
			if below[kid] != 0 {
				t.Errorf("%s: %d is below %d, and below %d", when, kid, below[kid], id)
			}
			below[kid] = id
		}
	}
	for _, id := range ids {
		n, _ := d.Node(id)
		if n.Parent != below[id] {
			t.Errorf("%s: %d is below %d, its Parent is %d", when, id, below[id], n.Parent)
		}
		up := id
		for range ids {
			up = below[up]
		}
		if up != 0 {
			t.Errorf("%s: %d is below itself, or below what is", when, id)
		}
	}
	if root, ok := d.Node(1); !ok || root.Tag != "root" || root.Parent != 0 {
		t.Errorf("%s: the root: %v, %v", when, root, ok)
	}
}

// is holds an error against a Code (0: none): the Code itself, not one that has it within.
func is(err error, c api.Code) bool {
	if c == 0 || err == nil {
		return c == 0 && err == nil
	}
	got, ok := err.(api.Code)
	return ok && got == c
}

func fresh(t *testing.T, room int) *dom.Doc {
	t.Helper()
	d, err := dom.New(room)
	if d == nil || err != nil {
		t.Fatalf("New(%d): %v, %v", room, d, err)
	}
	return d
}

// Changes.
func element(id int, tag string) api.Rec { return api.Rec{Op: api.Make, Id: id, Tag: tag} }
func text(id int, s string) api.Rec      { return api.Rec{Op: api.Make, Id: id, Text: s} }
func put(id, parent, before int) api.Rec {
	return api.Rec{Op: api.Put, Id: id, Parent: parent, Before: before}
}
func gone(id int) api.Rec                   { return api.Rec{Op: api.Gone, Id: id} }
func attrs(id int, l ...api.Attr) api.Rec   { return api.Rec{Op: api.Attrs, Id: id, Attrs: l} }
func data(id int, s string) api.Rec         { return api.Rec{Op: api.Data, Id: id, Text: s} }
func keyed(id int, tag, key string) api.Rec { return api.Rec{Op: api.Make, Id: id, Tag: tag, Key: key} }

// both are a document and the plain one, side by side.
type both struct {
	d *dom.Doc
	p *plain
}

func (b both) clone() both { return both{b.d.Clone(), b.p.clone()} }

// do does a change on each, and holds what is told behind it.
func (b both) do(t *testing.T, r api.Rec) api.Code {
	t.Helper()
	want := b.p.apply(r)
	if got := b.d.Apply(r); !is(got, want) {
		t.Errorf("Apply(%#v): %v, not %v", r, got, want)
	}
	agree(t, fmt.Sprintf("behind %#v (%v)", r, want), b.d, b.p)
	return want
}

// must does a change whose error, or none, a test names itself.
func (b both) must(t *testing.T, r api.Rec, want api.Code) {
	t.Helper()
	if got := b.do(t, r); got != want {
		t.Errorf("Apply(%#v): %v, not %v", r, got, want)
	}
}

// a is a document that many tests begin with: below the root a p (2), which has a text (3), a p (4) and a br (5); the p (4)
// has a text (6); a p (7) and a text (8) are behind the p (2); a p (9) is nowhere, and has a text (10); 11 is gone.
func a(t *testing.T, room int) both {
	t.Helper()
	b := both{fresh(t, room), newPlain(room)}
	for _, r := range []api.Rec{
		element(2, "p"), text(3, "x"), keyed(4, "p", "k"), element(5, "br"), text(6, ""), element(7, "div"), text(8, "y"),
		element(9, "p"), text(10, "z"), element(11, "p"),
		put(2, 1, 0), put(3, 2, 0), put(4, 2, 0), put(5, 2, 0), put(6, 4, 0), put(7, 1, 0), put(8, 1, 0), put(10, 9, 0),
		attrs(2, api.Attr{Name: "a", Value: "1"}, api.Attr{Name: "b", Value: "2", Static: true}), gone(11),
	} {
		b.must(t, r, 0)
	}
	return b
}

// P5.1: a room of 1 to 200, and no other one; then the root alone.
func TestNew(t *testing.T) {
	for room := -300; room <= 500; room++ {
		tryNew(t, room)
	}
	for _, room := range far {
		tryNew(t, room)
	}
}

func tryNew(t *testing.T, room int) {
	t.Helper()
	d, err := dom.New(room)
	if room < 1 || room > 200 {
		if d != nil || !is(err, api.ErrArg) {
			t.Errorf("New(%d): %v, %v, not nil, ErrArg", room, d, err)
		}
		return
	}
	if d == nil || err != nil {
		t.Fatalf("New(%d): %v, %v", room, d, err)
	}
	if n, ok := d.Node(1); !ok || n.Id != 1 || n.Parent != 0 || n.Tag != "root" || n.Text != "" || n.Key != "" || len(n.Attrs)+len(n.Kids) != 0 || n.Note != 0 {
		t.Errorf("New(%d): Node(1): %v, %v", room, n, ok)
	}
	if d.Next() != 2 || d.Free() != room-1 || d.Focus() != 0 || !slices.Equal(d.Ids(), []int{1}) {
		t.Errorf("New(%d): Next %d, Free %d, Focus %d, Ids %v", room, d.Next(), d.Free(), d.Focus(), d.Ids())
	}
	agree(t, fmt.Sprintf("New(%d)", room), d, newPlain(room))
}

// P5.1: the chapter's example.
func TestExample(t *testing.T) {
	d := fresh(t, 2)
	if err := d.Apply(api.Rec{Op: 1, Id: 2, Tag: "p"}); err != nil {
		t.Fatal(err)
	}
	if n, ok := d.Node(2); !ok || n.Parent != 0 {
		t.Errorf("made: %v, %v", n, ok)
	}
	if err := d.Apply(api.Rec{Op: 2, Id: 2, Parent: 1}); err != nil {
		t.Fatal(err)
	}
	if n, _ := d.Node(1); !slices.Equal(n.Kids, []int{2}) {
		t.Errorf("the root's Kids: %v", n.Kids)
	}
	if n, _ := d.Node(2); n.Parent != 1 || n.Tag != "p" {
		t.Errorf("the p: %v", n)
	}
}

// long are n bytes.
func long(n int) string { return strings.Repeat("a", n) }

// someTexts are some that may be texts, or names, and some that may not be.
var someTexts = []string{"", "a", "p", "br", "root", "a1", "a-", "1a", "-", "A", "a b", " ", "~", "\x1f", "\x7f", "a\n", "\x80", "\u00e9", "\xff", long(12), long(13), long(60), long(61), "<&>", "a\x00"}

// P5.1: Make of each tag, key and text of many, with and without room.
func TestMake(t *testing.T) {
	for _, room := range []int{1, 2, 200} {
		for _, tag := range someTexts {
			for _, key := range someTexts {
				for _, s := range someTexts {
					b := both{fresh(t, room), newPlain(room)}
					r := api.Rec{Op: api.Make, Id: 2, Tag: tag, Key: key, Text: s}
					want := b.p.apply(r)
					if got := b.d.Apply(r); !is(got, want) {
						t.Fatalf("room %d, Apply(%#v): %v, not %v", room, r, got, want)
					}
					if got, want := show(b.d.Node(2)), b.p.show(2); got != want {
						t.Fatalf("room %d, behind %#v: %s, not %s", room, r, got, want)
					}
					if b.d.Next() != b.p.last+1 || b.d.Free() != room-len(b.p.nodes) {
						t.Fatalf("room %d, behind %#v: Next %d, Free %d", room, r, b.d.Next(), b.d.Free())
					}
				}
			}
		}
	}
}

// P5.1: Make's errors, each alone, and behind another one.
func TestMakeErrors(t *testing.T) {
	b := a(t, 200)
	b.must(t, element(12, "p"), 0)
	for _, id := range append([]int{0, 1, 2, 3, 9, 10, 11, 12, 14, 15, 113}, far...) {
		b.must(t, element(id, "p"), api.ErrArg)
		b.must(t, text(id, "x"), api.ErrArg)
	}
	for _, r := range []api.Rec{
		element(13, "1p"), element(13, "P"), element(13, "p q"), element(13, long(13)), element(13, "\u00e9"),
		keyed(13, "p", "\n"), keyed(13, "p", long(61)), keyed(13, "", "k"), keyed(13, "P", "k"),
		{Op: api.Make, Id: 13, Tag: "p", Text: "x"}, {Op: api.Make, Id: 13, Tag: "p", Text: "x", Key: "k"}, {Op: api.Make, Id: 13, Text: "x", Key: "k"},
		text(13, "\x7f"), text(13, long(61)), text(13, "\t"),
	} {
		b.must(t, r, api.ErrArg)
	}
	b.must(t, api.Rec{Op: api.Make, Id: 13}, 0)
	b.must(t, element(14, "root"), 0)
	b.must(t, element(15, "input"), 0)
	b.must(t, keyed(16, long(12), " ~"+long(58)), 0)
	b.must(t, text(17, " ~"+long(58)), 0)
}

// P5.1: what Make doesn't name counts for nothing: the node is nowhere, without attributes.
func TestMakeOther(t *testing.T) {
	b := a(t, 200)
	bad := []api.Attr{{Name: "1"}, {Name: "a", Value: "\n"}}
	for i, r := range []api.Rec{
		{Op: api.Make, Tag: "p", Parent: 1, Before: 2, Attrs: []api.Attr{{Name: "a", Value: "1"}}},
		{Op: api.Make, Tag: "p", Parent: 99, Before: -5, Attrs: bad},
		{Op: api.Make, Text: "x", Parent: 3, Before: 3, Attrs: bad},
	} {
		r.Id = 12 + i
		b.must(t, r, 0)
		if n, ok := b.d.Node(r.Id); !ok || n.Parent != 0 || len(n.Attrs) != 0 {
			t.Errorf("behind %#v: %v, %v", r, n, ok)
		}
	}
}

// P5.1: where there is no room; ErrArg is named ahead of it; room is there again once something is gone.
func TestFull(t *testing.T) {
	for _, room := range []int{1, 2, 3, 10, 199, 200} {
		b := both{fresh(t, room), newPlain(room)}
		for id := 2; id <= room; id++ {
			r := element(id, "p")
			if b.d.Apply(r) != nil || b.p.apply(r) != 0 {
				t.Fatalf("room %d: no %d", room, id)
			}
		}
		agree(t, "full", b.d, b.p)
		next := room + 1
		b.must(t, element(next, "p"), api.ErrFull)
		b.must(t, text(next, ""), api.ErrFull)
		b.must(t, element(next+1, "p"), api.ErrArg)
		b.must(t, element(room, "p"), api.ErrArg)
		b.must(t, element(next, "P"), api.ErrArg)
		b.must(t, keyed(next, "", "k"), api.ErrArg)
		if room == 1 {
			continue
		}
		b.must(t, gone(room), 0)
		b.must(t, element(room, "p"), api.ErrArg)
		b.must(t, element(next, "p"), 0)
		b.must(t, element(next+1, "p"), api.ErrFull)
		b.must(t, gone(2), map[bool]api.Code{true: api.ErrNone, false: 0}[room == 2])
	}
}

// P5.1: Put's errors, each alone; of those that apply the first one named is told.
func TestPutErrors(t *testing.T) {
	b := a(t, 11)
	for _, id := range append([]int{0, 11, 12, 13}, far...) {
		b.must(t, put(id, 1, 0), api.ErrNone)
		b.must(t, put(2, id, 0), api.ErrNone)
		b.must(t, put(id, id, id), api.ErrNone)
		b.must(t, put(1, id, 1), api.ErrNone)
		if id != 0 {
			b.must(t, put(2, 1, id), api.ErrNone)
			b.must(t, put(1, 3, id), api.ErrNone)
			b.must(t, put(2, 2, id), api.ErrNone)
		}
	}
	// The root, whatever else is wrong.
	for _, r := range []api.Rec{put(1, 1, 0), put(1, 2, 0), put(1, 3, 0), put(1, 5, 0), put(1, 9, 0), put(1, 2, 7), put(1, 1, 2), put(1, 2, 1)} {
		b.must(t, r, api.ErrRoot)
	}
	// Below a text, and below a void one; itself, or what is below it, and a Before that is no child, count for nothing then.
	for _, r := range []api.Rec{put(2, 3, 0), put(2, 5, 0), put(3, 3, 0), put(5, 5, 0), put(9, 10, 0), put(9, 8, 8), put(9, 5, 3), put(2, 3, 2)} {
		b.must(t, r, api.ErrKind)
	}
	// Before what is no child of Parent, and before itself; a cycle is named behind it.
	for _, r := range []api.Rec{put(9, 1, 3), put(9, 1, 1), put(9, 1, 10), put(9, 2, 2), put(9, 2, 7), put(2, 1, 2), put(7, 1, 7), put(9, 1, 9), put(2, 2, 2), put(2, 2, 7), put(2, 4, 3), put(2, 4, 2), put(9, 9, 9), put(3, 4, 3)} {
		b.must(t, r, api.ErrArg)
	}
	// Below itself, and below what is below it, whether it is in the tree or nowhere.
	for _, r := range []api.Rec{put(2, 2, 0), put(2, 2, 3), put(2, 4, 0), put(2, 4, 6), put(4, 4, 6), put(9, 9, 0), put(9, 9, 10), put(7, 7, 0)} {
		b.must(t, r, api.ErrCycle)
	}
	b.must(t, element(12, "p"), 0)
	b.must(t, put(12, 9, 10), 0)
	b.must(t, put(9, 12, 0), api.ErrCycle)
	b.must(t, put(9, 7, 0), 0)
	b.must(t, put(7, 12, 0), api.ErrCycle)
}

// P5.1: Put from each place to each other one, of a parent of n children, and to another parent.
func TestPutPlaces(t *testing.T) {
	for n := 1; n <= 5; n++ {
		for id := 2; id <= n+1; id++ {
			for before := 0; before <= n+1; before++ {
				b := row(t, n)
				b.do(t, put(id, 1, before))
				b.do(t, put(id, 1, before))
			}
		}
		for id := 2; id <= n+1; id++ {
			for other := 2; other <= n+1; other++ {
				b := row(t, n)
				b.must(t, element(n+2, "p"), 0)
				b.must(t, put(n+2, 1, id), 0)
				b.must(t, put(other, n+2, 0), 0)
				b.do(t, put(id, n+2, other))
				b.must(t, put(other, 1, n+2), 0)
				b.must(t, put(n+2, 1, 0), 0)
			}
		}
	}
}

// row is a document with n children of the root.
func row(t *testing.T, n int) both {
	t.Helper()
	b := both{fresh(t, n+3), newPlain(n + 3)}
	for id := 2; id <= n+1; id++ {
		b.must(t, element(id, "p"), 0)
		b.must(t, put(id, 1, 0), 0)
	}
	return b
}

// P5.1: Put, by hand: ahead, behind, to where it is already, to another parent with all below it, and from nowhere.
func TestPut(t *testing.T) {
	b := a(t, 11)
	kids := func(id int, want ...int) {
		t.Helper()
		if n, _ := b.d.Node(id); !slices.Equal(n.Kids, want) {
			t.Errorf("Kids of %d: %v, not %v", id, n.Kids, want)
		}
	}
	b.must(t, put(8, 1, 2), 0)
	kids(1, 8, 2, 7)
	b.must(t, put(8, 1, 2), 0)
	kids(1, 8, 2, 7)
	b.must(t, put(8, 1, 7), 0)
	kids(1, 2, 8, 7)
	b.must(t, put(7, 1, 0), 0)
	kids(1, 2, 8, 7)
	b.must(t, put(2, 1, 0), 0)
	kids(1, 8, 7, 2)
	b.must(t, put(2, 7, 0), 0)
	kids(1, 8, 7)
	kids(7, 2)
	kids(2, 3, 4, 5)
	b.must(t, put(9, 2, 4), 0)
	kids(2, 3, 9, 4, 5)
	kids(9, 10)
	b.must(t, put(4, 9, 10), 0)
	kids(2, 3, 9, 5)
	kids(9, 4, 10)
	b.must(t, put(6, 1, 8), 0)
	kids(1, 6, 8, 7)
	kids(4)
}

// P5.1: Gone, and its errors; all below it is gone, too, and nothing else is.
func TestGone(t *testing.T) {
	b := a(t, 11)
	for _, id := range append([]int{0, 11, 12}, far...) {
		b.must(t, gone(id), api.ErrNone)
	}
	b.must(t, gone(1), api.ErrRoot)
	for id := 2; id <= 10; id++ {
		c := b.clone()
		c.must(t, gone(id), 0)
		c.must(t, gone(id), api.ErrNone)
		c.must(t, gone(1), api.ErrRoot)
		if c.d.Next() != 12 {
			t.Errorf("Gone %d: Next %d", id, c.d.Next())
		}
		c.must(t, element(12, "p"), 0)
	}
	b.must(t, gone(4), 0)
	b.must(t, gone(6), api.ErrNone)
	b.must(t, gone(9), 0)
	b.must(t, gone(10), api.ErrNone)
	b.must(t, gone(2), 0)
	b.must(t, gone(5), api.ErrNone)
	if got := b.d.Ids(); !slices.Equal(got, []int{1, 7, 8}) {
		t.Errorf("Ids: %v", got)
	}
}

// P5.1, P5.2: the focus goes with what goes, and with nothing else; a Put leaves it.
func TestGoneFocus(t *testing.T) {
	for focus := 0; focus <= 10; focus++ {
		for id := 1; id <= 10; id++ {
			b := a(t, 11)
			b.focus(t, focus, 0)
			b.do(t, gone(id))
		}
	}
	b := a(t, 11)
	b.focus(t, 6, 0)
	b.must(t, gone(3), 0)
	b.must(t, put(4, 9, 0), 0)
	b.must(t, gone(2), 0)
	if b.d.Focus() != 6 {
		t.Errorf("Focus %d, not 6", b.d.Focus())
	}
	b.must(t, gone(9), 0)
	if b.d.Focus() != 0 {
		t.Errorf("Focus %d, not 0", b.d.Focus())
	}
}

// P5.1: Attrs, and its errors, of which the first one named is told.
func TestAttrs(t *testing.T) {
	b := a(t, 11)
	eight := []api.Attr{{Name: "a"}, {Name: "b"}, {Name: "c"}, {Name: "d", Static: true}, {Name: "e"}, {Name: "f", Value: "~"}, {Name: "g"}, {Name: "h"}}
	bad := [][]api.Attr{
		append(slices.Clone(eight), api.Attr{Name: "i"}),
		{{Name: ""}}, {{Name: "1"}}, {{Name: "A"}}, {{Name: long(13)}}, {{Name: "a", Value: long(61)}}, {{Name: "a", Value: "\n"}},
		{{Name: "a"}, {Name: "a"}}, {{Name: "a", Static: true}, {Name: "a"}}, {{Name: "a"}, {Name: "b"}, {Name: "a", Value: "1"}},
	}
	for _, l := range bad {
		for _, id := range append([]int{0, 11, 12}, far...) {
			b.must(t, attrs(id, l...), api.ErrNone)
		}
		b.must(t, attrs(3, l...), api.ErrKind)
		for _, id := range []int{1, 2, 5, 9} {
			b.must(t, attrs(id, l...), api.ErrArg)
		}
	}
	for _, l := range [][]api.Attr{nil, {}, {{Name: "a", Value: "1"}}, eight, {{Name: "b", Static: true}, {Name: "a"}}, nil, eight, {}} {
		b.must(t, attrs(12, l...), api.ErrNone)
		b.must(t, attrs(3, l...), api.ErrKind)
		for _, id := range []int{1, 2, 4, 5, 9} {
			b.must(t, attrs(id, l...), 0)
		}
	}
}

// P5.1: Data, and its errors, of which the first one named is told.
func TestData(t *testing.T) {
	b := a(t, 11)
	for _, s := range someTexts {
		for _, id := range append([]int{0, 11, 12}, far...) {
			b.must(t, data(id, s), api.ErrNone)
		}
		for _, id := range []int{1, 2, 5, 9} {
			b.must(t, data(id, s), api.ErrKind)
		}
		for _, id := range []int{3, 6, 10} {
			want := api.Code(0)
			if len(s) == 61 || strings.Contains("\x1f\x7f\x80\xff a\x00 a\n \u00e9", s) && s != "" && s != "a" && s != " " {
				want = api.ErrArg
			}
			b.must(t, data(id, s), want)
		}
	}
}

// P5.1: fields that a change doesn't name count for nothing.
func TestOtherFields(t *testing.T) {
	bad := []api.Attr{{Name: "1"}}
	for _, id := range []int{1, 2, 3, 9, 11, 12} {
		for _, r := range []api.Rec{
			{Op: api.Put, Id: id, Parent: 7, Tag: "P", Text: "\n", Key: "\n", Attrs: bad},
			{Op: api.Gone, Id: id, Parent: -1, Before: -1, Tag: "P", Text: "\n", Key: "\n", Attrs: bad},
			{Op: api.Attrs, Id: id, Parent: -1, Before: -1, Tag: "P", Text: "\n", Key: "\n", Attrs: []api.Attr{{Name: "a"}}},
			{Op: api.Data, Id: id, Parent: -1, Before: -1, Tag: "P", Text: "s", Key: "\n", Attrs: bad},
		} {
			a(t, 11).do(t, r)
		}
	}
}

// P5.1: a change of another number, whatever it has.
func TestOtherChange(t *testing.T) {
	b := a(t, 11)
	for _, op := range append([]int{0, 6, 7, 255, 256, 257, 259, 1 << 32}, far...) {
		for id := 0; id <= 13; id++ {
			b.must(t, api.Rec{Op: op, Id: id}, api.ErrArg)
			b.must(t, api.Rec{Op: op, Id: id, Parent: 1, Tag: "p"}, api.ErrArg)
		}
	}
}

// focus sets it on both, and holds what is told behind it.
func (b both) focus(t *testing.T, id int, want api.Code) {
	t.Helper()
	if got := b.d.SetFocus(id); !is(got, want) {
		t.Errorf("SetFocus(%d): %v, not %v", id, got, want)
	}
	if want == 0 {
		b.p.focus = id
	}
	agree(t, fmt.Sprintf("behind SetFocus(%d)", id), b.d, b.p)
}

// note sets one on both, and holds what is told behind it.
func (b both) note(t *testing.T, id int, n int64, want api.Code) {
	t.Helper()
	if got := b.d.Note(id, n); !is(got, want) {
		t.Errorf("Note(%d, %d): %v, not %v", id, n, got, want)
	}
	if want == 0 {
		node := b.p.nodes[id]
		node.note = n
		b.p.nodes[id] = node
	}
	agree(t, fmt.Sprintf("behind Note(%d, %d)", id, n), b.d, b.p)
}

// P5.2: the focus, and a note, of each that is there, of none, and of what isn't there.
func TestFocusAndNote(t *testing.T) {
	b := a(t, 11)
	for id := 1; id <= 10; id++ {
		b.focus(t, id, 0)
		for _, n := range []int64{1, -1, 0, math.MaxInt64, math.MinInt64, int64(id)} {
			b.note(t, id, n, 0)
		}
		for _, none := range append([]int{11, 12, 13}, far...) {
			b.focus(t, none, api.ErrNone)
			b.note(t, none, 5, api.ErrNone)
		}
		b.note(t, 0, 5, api.ErrNone)
		if id%2 == 0 {
			b.focus(t, 0, 0)
		}
	}
	b.focus(t, 3, 0)
	b.must(t, gone(3), 0)
	b.focus(t, 3, api.ErrNone)
	b.note(t, 3, 1, api.ErrNone)
	// A note stays where its node is, whatever is done with the node.
	b.must(t, put(2, 7, 0), 0)
	b.must(t, data(10, "q"), 0)
	b.must(t, attrs(2), 0)
	if n, _ := b.d.Node(2); n.Note != 2 {
		t.Errorf("Note of 2: %d", n.Note)
	}
}

// P5.2: a clone is as the document is; nothing that is done to one of the two is done to the other.
func TestClone(t *testing.T) {
	changes := []api.Rec{
		element(12, "p"), text(12, "x"), put(9, 1, 0), put(9, 1, 2), put(9, 2, 4), put(2, 7, 0), put(8, 1, 2), put(5, 1, 0), gone(2), gone(3), gone(9),
		gone(8), attrs(1, api.Attr{Name: "x"}), attrs(2), attrs(2, api.Attr{Name: "a", Value: "1"}), attrs(9, api.Attr{Name: "z"}), data(3, "new"), data(10, "new"),
	}
	for _, r := range changes {
		for side := range 2 {
			b := a(t, 12)
			b.focus(t, 6, 0)
			b.note(t, 4, 44, 0)
			c := b.clone()
			agree(t, "the clone", c.d, c.p)
			if side == 1 {
				b, c = c, b
			}
			b.must(t, r, 0)
			agree(t, fmt.Sprintf("the other one, behind %#v", r), c.d, c.p)
			b.focus(t, 1, 0)
			b.note(t, 1, 11, 0)
			b.note(t, 7, 77, 0)
			agree(t, "the other one, behind SetFocus and Note", c.d, c.p)
			c.must(t, r, 0)
			agree(t, "the first one", b.d, b.p)
			c.clone().must(t, element(c.p.last+1, "p"), map[bool]api.Code{true: 0, false: api.ErrFull}[c.d.Free() > 0])
		}
	}
	one := both{fresh(t, 1), newPlain(1)}
	one.clone().must(t, element(2, "p"), api.ErrFull)
	one.clone().must(t, attrs(1, api.Attr{Name: "a"}), 0)
	agree(t, "the root's document", one.d, one.p)
}

// spoil overwrites all that a list has, and what lies behind its end.
func spoil[T any](l []T, x T) {
	l = l[:cap(l)]
	for i := range l {
		l[i] = x
	}
}

// P5.3: nothing that was told is a document's memory.
func TestToldIsNew(t *testing.T) {
	b := a(t, 200)
	b.must(t, attrs(4, api.Attr{Name: "k"}), 0)
	c := b.clone()
	for id := 1; id <= 10; id++ {
		for _, d := range []*dom.Doc{b.d, c.d} {
			n, _ := d.Node(id)
			m, _ := d.Node(id)
			was := show(m, true)
			spoil(n.Attrs, api.Attr{Name: "bad", Value: "\n", Static: true})
			spoil(n.Kids, 99)
			if got := show(m, true); got != was {
				t.Errorf("two told of %d share memory: %s, not %s", id, got, was)
			}
			agree(t, "what Node told was changed", b.d, b.p)
			agree(t, "what Node of a clone told was changed", c.d, c.p)
			_ = append(m.Kids, 77)
			_ = append(m.Attrs, api.Attr{Name: "bad"})
			agree(t, "what Node told was added to", b.d, b.p)
		}
	}
	ids := b.d.Ids()
	again := b.d.Ids()
	spoil(ids, 99)
	if !slices.Equal(again, []int{1, 2, 3, 4, 5, 6, 7, 8, 9, 10}) {
		t.Errorf("two Ids share memory: %v", again)
	}
	agree(t, "what Ids told was changed", b.d, b.p)
	// Changed by later changes, what was told stays.
	n, _ := b.d.Node(1)
	m, _ := b.d.Node(2)
	was := show(n, true) + show(m, true)
	for _, r := range []api.Rec{put(8, 1, 2), put(3, 1, 0), gone(7), put(9, 1, 2), attrs(2, api.Attr{Name: "new"}), gone(4), put(3, 2, 5), element(12, "p")} {
		b.must(t, r, 0)
		if got := show(n, true) + show(m, true); got != was {
			t.Fatalf("%#v changed what was told: %s, not %s", r, got, was)
		}
	}
	if !slices.Equal(again, []int{1, 2, 3, 4, 5, 6, 7, 8, 9, 10}) {
		t.Errorf("what Ids told was changed by changes: %v", again)
	}
}

// P5.3: nothing that was handed in is a document's memory, nor is it changed.
func TestHandedInIsCopied(t *testing.T) {
	b := a(t, 200)
	for _, id := range []int{1, 2, 5, 9} {
		list := make([]api.Attr, 2, 9)
		list[0], list[1] = api.Attr{Name: "a", Value: "1"}, api.Attr{Name: "b", Static: true}
		was := showAttrs(list[:9])
		b.must(t, attrs(id, list...), 0)
		b.must(t, attrs(id, list[:1]...), 0)
		b.must(t, attrs(3, list...), api.ErrKind)
		b.must(t, attrs(id, list[:9]...), api.ErrArg)
		b.must(t, attrs(id, list...), 0)
		if got := showAttrs(list[:9]); got != was {
			t.Errorf("Apply changed the list: %s, not %s", got, was)
		}
		spoil(list, api.Attr{Name: "bad", Value: "\n"})
		agree(t, "what was handed in was changed", b.d, b.p)
	}
	// One list handed in twice is two lists then.
	list := []api.Attr{{Name: "a", Value: "1"}}
	b.must(t, attrs(2, list...), 0)
	b.must(t, attrs(4, list...), 0)
	b.must(t, attrs(4, api.Attr{Name: "a", Value: "2"}), 0)
	if n, _ := b.d.Node(2); n.Attrs[0].Value != "1" {
		t.Errorf("attributes of 2: %v", n.Attrs)
	}
}

// P5.1, P5.4: a chain as deep as there is room, moved, and gone at once.
func TestDeep(t *testing.T) {
	b := both{fresh(t, 200), newPlain(200)}
	for id := 2; id <= 200; id++ {
		for _, r := range []api.Rec{element(id, "p"), put(id, id-1, 0)} {
			if b.d.Apply(r) != nil || b.p.apply(r) != 0 {
				t.Fatalf("%#v", r)
			}
		}
	}
	agree(t, "a chain", b.d, b.p)
	b.must(t, put(2, 200, 0), api.ErrCycle)
	b.must(t, put(100, 150, 0), api.ErrCycle)
	b.must(t, put(150, 1, 0), 0)
	b.must(t, put(2, 200, 0), 0)
	b.must(t, put(150, 1, 0), 0)
	b.must(t, put(150, 149, 0), api.ErrCycle)
	b.focus(t, 149, 0)
	b.clone().must(t, gone(150), 0)
	b.must(t, gone(2), 0)
	b.must(t, gone(150), 0)
	if b.d.Free() != 199 || b.d.Next() != 201 {
		t.Errorf("Free %d, Next %d", b.d.Free(), b.d.Next())
	}
	b.must(t, element(201, "p"), 0)
}

// P5.4: identities are never given again, however often the room is used.
func TestNeverAgain(t *testing.T) {
	b := both{fresh(t, 3), newPlain(3)}
	for id := 2; id <= 600; id++ {
		if err := b.d.Apply(element(id, "p")); err != nil {
			t.Fatalf("Make %d: %v", id, err)
		}
		if err := b.d.Apply(element(id-1, "p")); !is(err, api.ErrArg) {
			t.Fatalf("Make %d again: %v", id-1, err)
		}
		if err := b.d.Apply(put(id, 1, 0)); err != nil {
			t.Fatalf("Put %d: %v", id, err)
		}
		if id > 2 {
			if err := b.d.Apply(gone(id - 1)); err != nil {
				t.Fatalf("Gone %d: %v", id-1, err)
			}
		}
		for old := 2; old < id; old++ {
			if n, ok := b.d.Node(old); ok {
				t.Fatalf("%d is there again: %v", old, n)
			}
		}
		if !slices.Equal(b.d.Ids(), []int{1, id}) || b.d.Next() != id+1 || b.d.Free() != 1 {
			t.Fatalf("behind %d: Ids %v, Next %d, Free %d", id, b.d.Ids(), b.d.Next(), b.d.Free())
		}
	}
}

// changes are all that may be asked of a document whose last identity is last, with ones that may not be.
func changes(last int) []api.Rec {
	var l []api.Rec
	for id := 0; id <= last+2; id++ {
		l = append(l, element(id, "p"), element(id, "br"), text(id, "x"), keyed(id, "p", "k"), keyed(id, "", "k"), gone(id), attrs(id, api.Attr{Name: "a"}), attrs(id, api.Attr{}), data(id, "y"), data(id, "\n"))
		for parent := 0; parent <= last+1; parent++ {
			for before := 0; before <= last+1; before++ {
				l = append(l, put(id, parent, before))
			}
		}
	}
	return l
}

// key tells all of a plain document.
func (p *plain) key() string {
	s := fmt.Sprint(p.last, p.focus)
	for id := 1; id <= p.last; id++ {
		s += p.show(id) + "\n"
	}
	return s
}

// P5.1 to P5.4: from each document that up to so many changes reach, each change answers, and does, as the chapter's words say.
func TestAllSmall(t *testing.T) {
	const room, last = 4, 4
	begin := both{fresh(t, room), newPlain(room)}
	seen := map[string]bool{begin.p.key(): true}
	tried := 0
	for queue := []both{begin}; len(queue) > 0; queue = queue[1:] {
		b := queue[0]
		for _, r := range changes(b.p.last) {
			c := b.clone()
			want := c.p.apply(r)
			if got := c.d.Apply(r); !is(got, want) {
				t.Fatalf("Apply(%#v) on %s: %v, not %v", r, b.p.key(), got, want)
			}
			agree(t, fmt.Sprintf("behind %#v on %s", r, b.p.key()), c.d, c.p)
			if t.Failed() {
				t.FailNow()
			}
			tried++
			if k := c.p.key(); !seen[k] && c.p.last <= last && r.Op < api.Attrs && want == 0 && len(seen) < 250 {
				seen[k] = true
				queue = append(queue, c)
			}
		}
		agree(t, "the one that was cloned", b.d, b.p)
	}
	if tried < 10000 {
		t.Errorf("only %d were tried", tried)
	}
}

// some is a change, the focus or a note, of a few numbers.
func (b both) some(t *testing.T, pick func(n int) int) {
	t.Helper()
	id := func() int { return pick(b.p.last+3) - 1 }
	switch pick(12) {
	case 0, 1:
		b.do(t, element(b.p.last+1, []string{"p", "div", "br", "P"}[pick(4)]))
	case 2:
		b.do(t, text(b.p.last+1, someTexts[pick(len(someTexts))]))
	case 3:
		b.do(t, gone(id()))
	case 4:
		b.do(t, attrs(id(), []api.Attr{{Name: "a"}, {Name: "b", Static: true}, {Name: "a", Value: "1"}}[pick(3):]...))
	case 5:
		b.do(t, data(id(), someTexts[pick(len(someTexts))]))
	case 6:
		at := id()
		want := api.Code(0)
		if at != 0 && !b.p.has(at) {
			want = api.ErrNone
		}
		b.focus(t, at, want)
	case 7:
		at := id()
		want := api.Code(0)
		if !b.p.has(at) {
			want = api.ErrNone
		}
		b.note(t, at, int64(pick(100)), want)
	case 8:
		b.do(t, api.Rec{Op: pick(9) - 1, Id: id(), Parent: id(), Before: id(), Tag: someTexts[pick(len(someTexts))]})
	default:
		before := id()
		if pick(2) == 0 {
			before = 0
		}
		b.do(t, put(id(), id(), before))
	}
}

// P5.1 to P5.4: long runs by a fixed seed, on clones of clones.
func TestRuns(t *testing.T) {
	r := rand.New(rand.NewSource(5))
	for run := range 60 {
		room := 1 + r.Intn(12)
		b := both{fresh(t, room), newPlain(room)}
		for range 150 {
			b.some(t, r.Intn)
			if r.Intn(10) == 0 {
				old := b
				b = b.clone()
				old.some(t, r.Intn)
			}
		}
		if t.Failed() {
			t.Fatalf("run %d", run)
		}
	}
}

// P1: documents that differ share nothing: each may be used by a goroutine of its own (go test -race sees it).
func TestApartAtOnce(t *testing.T) {
	b := a(t, 200)
	ends := make(chan int)
	for range 4 {
		c := b.d.Clone()
		go func() {
			for id := 12; id <= 120; id++ {
				_ = c.Apply(element(id, "p"))
				_ = c.Apply(put(id, 2, 3))
				_ = c.Apply(attrs(2, api.Attr{Name: "a", Value: fmt.Sprint(id)}))
				_ = c.Apply(put(3, 1, 0))
				_ = c.Apply(put(3, 2, 0))
				_ = c.Note(2, int64(id))
				_ = c.SetFocus(id)
			}
			ends <- c.Focus()
		}()
	}
	for range 4 {
		if focus := <-ends; focus != 120 {
			t.Errorf("Focus %d, not 120", focus)
		}
	}
	agree(t, "the one that was cloned", b.d, b.p)
}

// P1: a goal for go test -fuzz; its seeds run in every test. The first byte is the room, the others pick what is done.
func FuzzDom(f *testing.F) {
	for _, s := range []string{"", "\x00", "\x01", "\xc8\x00", "\xc9", "\x05\x00\x00\x00\x00\x0b\x01\x00\x01\x00", "\x08" + strings.Repeat("\x00\x00\x0b\x03\x02\x01\x00", 8), "\x20" + strings.Repeat("\x00\x00\x09\x02\x00\x03\x02\x06\x01", 9)} {
		f.Add([]byte(s))
	}
	f.Fuzz(func(t *testing.T, in []byte) {
		if len(in) == 0 || len(in) > 300 {
			return
		}
		room := int(in[0])
		if room < 1 || room > 200 {
			tryNew(t, room)
			return
		}
		b := both{fresh(t, room), newPlain(room)}
		in = in[1:]
		pick := func(n int) int {
			if len(in) == 0 {
				return 0
			}
			x := int(in[0]) % n
			in = in[1:]
			return x
		}
		for len(in) > 0 && !t.Failed() {
			b.some(t, pick)
			if pick(8) == 7 {
				b = b.clone()
			}
		}
	})
}
