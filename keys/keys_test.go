package keys_test

import (
	"fmt"
	"math"
	"math/rand"
	"slices"
	"strings"
	"sync"
	"testing"

	"placket/api"
	"placket/dom"
	"placket/keys"
)

// far are identities that no small document has, the smallest and the greatest numbers among them.
var far = []int{0, -1, -2, -7, -200, 200, 201, 1 << 20, -1 << 20, math.MinInt32, math.MaxInt32, math.MinInt, math.MinInt + 1, math.MaxInt - 1, math.MaxInt, 1 << 32, 1<<32 + 1, 1<<32 + 2, -1<<32 + 2}

func fresh(t *testing.T, room int) *dom.Doc {
	t.Helper()
	d, err := dom.New(room)
	if d == nil || err != nil {
		t.Fatalf("New(%d): %v, %v", room, d, err)
	}
	return d
}

func do(t *testing.T, d *dom.Doc, l ...api.Rec) {
	t.Helper()
	for _, r := range l {
		if err := d.Apply(r); err != nil {
			t.Fatalf("Apply(%#v): %v", r, err)
		}
	}
}

// Changes.
func element(id int, tag, key string) api.Rec {
	return api.Rec{Op: api.Make, Id: id, Tag: tag, Key: key}
}
func text(id int, s string) api.Rec { return api.Rec{Op: api.Make, Id: id, Text: s} }
func put(id, parent int) api.Rec    { return api.Rec{Op: api.Put, Id: id, Parent: parent} }
func gone(id int) api.Rec           { return api.Rec{Op: api.Gone, Id: id} }

// a is a document that many tests look at.
//
//	1 root
//	  2 p, of key a
//	    13 p, of key a
//	    14 b, of key d
//	  3 text a
//	  4 p
//	  5 b, of key a
//	  6 p, of key b
//	  7 p, of key a
//	  8 br, of key a
//	  9 p, of key c
//	10 p, of key a, nowhere
//	15 text, nowhere
//
// 11, a p of key a, and 12, below it, are gone; 16 wasn't there yet.
func a(t *testing.T) *dom.Doc {
	t.Helper()
	d := fresh(t, 20)
	do(t, d,
		element(2, "p", "a"), text(3, "a"), element(4, "p", ""), element(5, "b", "a"), element(6, "p", "b"), element(7, "p", "a"),
		element(8, "br", "a"), element(9, "p", "c"), element(10, "p", "a"), element(11, "p", "a"), element(12, "p", "a"),
		element(13, "p", "a"), element(14, "b", "d"), text(15, "c"),
		put(2, 1), put(3, 1), put(4, 1), put(5, 1), put(6, 1), put(7, 1), put(8, 1), put(9, 1), put(11, 1), put(12, 11), put(13, 2), put(14, 2),
		gone(11),
	)
	return d
}

// kids are the root's children in a.
func kids() []int { return []int{2, 3, 4, 5, 6, 7, 8, 9} }

// all tells all that a document tells.
func all(d *dom.Doc) string {
	s := fmt.Sprint(d.Ids(), d.Next(), d.Free(), d.Focus())
	for _, id := range d.Ids() {
		n, ok := d.Node(id)
		s += fmt.Sprintf("\n%#v %v", n, ok)
	}
	return s
}

// found holds what is found of a tag and a key against an identity; 0 is none.
func found(t *testing.T, m *keys.Map, tag, key string, want int) {
	t.Helper()
	if id, ok := m.Find(tag, key); id != want || ok != (want != 0) {
		t.Errorf("Find(%q, %q): %d, %v, not %d, %v", tag, key, id, ok, want, want != 0)
	}
}

func drop(t *testing.T, m *keys.Map, id int, want bool) {
	t.Helper()
	if got := m.Drop(id); got != want {
		t.Errorf("Drop(%d): %v, not %v", id, got, want)
	}
}

func many(t *testing.T, m *keys.Map, want int) {
	t.Helper()
	if got := m.Len(); got != want {
		t.Errorf("Len: %d, not %d", got, want)
	}
}

// P15.1: the chapter's example: of a p of key a.
func TestExample(t *testing.T) {
	d := fresh(t, 2)
	do(t, d, element(2, "p", "a"), put(2, 1))
	m := keys.New(d, []int{2})
	found(t, m, "p", "a", 2)
	many(t, m, 1)
	drop(t, m, 2, true)
	found(t, m, "p", "a", 0)
	drop(t, m, 2, false)
	many(t, m, 0)
}

// P15.1: Find, by tag and key, neither of them alone; what isn't there, and what has no key, isn't found.
func TestFind(t *testing.T) {
	m := keys.New(a(t), kids())
	for _, c := range []struct {
		what, tag, key string
		want           int
	}{
		{"the first one of two", "p", "a", 2}, {"of another tag", "b", "a", 5}, {"of another key", "p", "b", 6}, {"a void one", "br", "a", 8},
		{"the last one", "p", "c", 9},
		{"of a tag that isn't there", "div", "a", 0}, {"of a key that isn't there", "p", "x", 0}, {"of a tag, and another one's key", "b", "b", 0},
		{"of a key, and another one's tag", "br", "c", 0}, {"of no tag", "", "a", 0}, {"of no key", "p", "", 0}, {"of neither", "", "", 0},
		{"the root", "root", "", 0}, {"the root's tag", "root", "a", 0}, {"a text's", "", "c", 0},
		{"below one of them", "b", "d", 0},
		{"the other way round", "a", "p", 0}, {"as one", "pa", "", 0}, {"as one key", "", "pa", 0},
		{"in capitals", "P", "a", 0}, {"a key in capitals", "p", "A", 0}, {"a key and a space", "p", "a ", 0}, {"a key and a zero byte", "p", "a\x00", 0},
		{"a longer tag", "pp", "a", 0}, {"a longer key", "p", "aa", 0}, {"a tag that begins so", "b", "ra", 0},
		{"what may not be", "<", "\xff\n", 0}, {"a tag of many bytes", strings.Repeat("p", 1<<20), "a", 0}, {"a key of many bytes", "p", strings.Repeat("a", 1<<20), 0},
	} {
		for range 2 {
			if id, ok := m.Find(c.tag, c.key); id != c.want || ok != (c.want != 0) {
				t.Errorf("%s: Find(%.70q, %.70q): %d, %v, not %d, %v", c.what, c.tag, c.key, id, ok, c.want, c.want != 0)
			}
		}
	}
	many(t, m, 6)
}

// P15.1: any nodes, not children of one alone: those are left out that are texts, have no key, or aren't there.
func TestNew(t *testing.T) {
	for _, c := range []struct {
		what string
		ids  []int
		// What is found of a p of key a, of a b of key a, and of a b of key d; 0 is none.
		pa, ba, bd int
		n          int
	}{
		{"none", nil, 0, 0, 0, 0},
		{"none, that isn't nil", []int{}, 0, 0, 0, 0},
		{"children", []int{2, 3, 4, 5, 6, 7, 8, 9}, 2, 5, 0, 6},
		{"children of another one", []int{13, 14}, 13, 0, 14, 2},
		{"one that is nowhere", []int{10}, 10, 0, 0, 1},
		{"the root", []int{1}, 0, 0, 0, 0},
		{"a text", []int{3}, 0, 0, 0, 0},
		{"texts", []int{3, 15}, 0, 0, 0, 0},
		{"one without a key", []int{4}, 0, 0, 0, 0},
		{"those that are gone", []int{11, 12}, 0, 0, 0, 0},
		{"one that wasn't there yet", []int{16}, 0, 0, 0, 0},
		{"0", []int{0}, 0, 0, 0, 0},
		{"less, and much more", far, 0, 0, 0, 0},
		{"one amid those that aren't", slices.Concat(far, []int{11, 3, 4, 7, 1, 12, 16}), 7, 0, 0, 1},
		{"all of them, from the last one on", []int{15, 14, 13, 12, 11, 10, 9, 8, 7, 6, 5, 4, 3, 2, 1}, 13, 5, 14, 9},
	} {
		m := keys.New(a(t), c.ids)
		if m == nil {
			t.Fatalf("%s: nil", c.what)
		}
		n := m.Len()
		pa, okPa := m.Find("p", "a")
		ba, okBa := m.Find("b", "a")
		bd, okBd := m.Find("b", "d")
		if n != c.n || pa != c.pa || ba != c.ba || bd != c.bd || okPa != (pa != 0) || okBa != (ba != 0) || okBd != (bd != 0) {
			t.Errorf("%s: %v: %d, and %d %v, %d %v, %d %v are found, not %d, and %d, %d, %d", c.what, c.ids, n, pa, okPa, ba, okBa, bd, okBd, c.n, c.pa, c.ba, c.bd)
		}
	}
}

// P15.1: the first one in the order of ids is found, whatever its identity, and wherever it is; behind it the next one of these.
func TestOrder(t *testing.T) {
	d := a(t)
	for _, ids := range [][]int{
		{2, 7, 10, 13}, {13, 10, 7, 2}, {7, 2, 13, 10}, {10, 13, 2, 7}, {13, 2, 10, 7},
		{5, 7, 3, 2, 11, 13, 8, 10}, {10, 5, 2, 6, 7, 9, 13}, {6, 5, 9, 8, 3, 4, 13, 1, 7, 16, 2, 10, 0},
	} {
		order := slices.DeleteFunc(slices.Clone(ids), func(id int) bool { return !slices.Contains([]int{2, 7, 10, 13}, id) })
		m := keys.New(d, ids)
		for _, id := range order {
			found(t, m, "p", "a", id)
			drop(t, m, id, true)
		}
		found(t, m, "p", "a", 0)
		// Dropped from behind: the first one stays the first one.
		m = keys.New(d, ids)
		for _, id := range slices.Backward(order) {
			found(t, m, "p", "a", order[0])
			drop(t, m, id, true)
		}
		found(t, m, "p", "a", 0)
		// Dropped amid them.
		m = keys.New(d, ids)
		drop(t, m, order[1], true)
		found(t, m, "p", "a", order[0])
		drop(t, m, order[0], true)
		found(t, m, "p", "a", order[2])
		drop(t, m, order[2], true)
		found(t, m, "p", "a", order[3])
		if t.Failed() {
			t.Fatalf("of %v", ids)
		}
	}
}

// P15.1: Drop, once each: nothing else goes with it, and what isn't there goes with nothing.
func TestDrop(t *testing.T) {
	m := keys.New(a(t), kids())
	rest := func(pa, ba, pb, bra, pc, n int) {
		t.Helper()
		found(t, m, "p", "a", pa)
		found(t, m, "b", "a", ba)
		found(t, m, "p", "b", pb)
		found(t, m, "br", "a", bra)
		found(t, m, "p", "c", pc)
		many(t, m, n)
	}
	for _, id := range slices.Concat(far, []int{1, 3, 4, 10, 11, 12, 13, 14, 15, 16}) {
		drop(t, m, id, false)
	}
	rest(2, 5, 6, 8, 9, 6)
	drop(t, m, 7, true)
	rest(2, 5, 6, 8, 9, 5)
	drop(t, m, 7, false)
	rest(2, 5, 6, 8, 9, 5)
	drop(t, m, 5, true)
	rest(2, 0, 6, 8, 9, 4)
	drop(t, m, 2, true)
	rest(0, 0, 6, 8, 9, 3)
	drop(t, m, 9, true)
	rest(0, 0, 6, 8, 0, 2)
	drop(t, m, 8, true)
	drop(t, m, 6, true)
	rest(0, 0, 0, 0, 0, 0)
	for _, id := range kids() {
		drop(t, m, id, false)
	}
	rest(0, 0, 0, 0, 0, 0)
}

// asks are the ways to ask a map first; a Drop of 0 drops nothing.
var asks = []struct {
	what string
	ask  func(m *keys.Map)
}{
	{"Find", func(m *keys.Map) { m.Find("p", "a") }},
	{"Find of none", func(m *keys.Map) { m.Find("", "") }},
	{"Drop", func(m *keys.Map) { m.Drop(0) }},
	{"Len", func(m *keys.Map) { m.Len() }},
}

// P15.1: the nodes are told as they are when the map is first asked, whatever is asked: not as they were when it was made.
func TestFirstAsked(t *testing.T) {
	for _, c := range asks {
		d := a(t)
		ids := []int{2, 7, 9, 3, 16, 17}
		m := keys.New(d, ids)
		// Ahead of it: 2 goes, 16 comes.
		do(t, d, gone(2), element(16, "p", "d"))
		c.ask(m)
		was := func() {
			t.Helper()
			found(t, m, "p", "a", 7)
			found(t, m, "p", "c", 9)
			found(t, m, "p", "d", 16)
			found(t, m, "p", "e", 0)
			many(t, m, 3)
		}
		was()
		// Behind it: 7 and 16 go, 17 comes, 9 moves: the map isn't made anew.
		do(t, d, gone(7), gone(16), element(17, "p", "e"), put(9, 4))
		was()
		for _, again := range asks {
			again.ask(m)
		}
		was()
		drop(t, m, 17, false)
		drop(t, m, 2, false)
		drop(t, m, 16, true)
		drop(t, m, 7, true)
		drop(t, m, 9, true)
		many(t, m, 0)
		// Another map of the same ids is of the document as it is now.
		m = keys.New(d, ids)
		found(t, m, "p", "e", 17)
		found(t, m, "p", "a", 0)
		many(t, m, 2)
		if t.Failed() {
			t.Fatalf("asked first by %s", c.what)
		}
	}
}

// P15.1: the first Drop drops, and the first Find finds, and the first Len counts: none of them has to be asked twice.
func TestFirstAnswers(t *testing.T) {
	d := a(t)
	drop(t, keys.New(d, kids()), 2, true)
	drop(t, keys.New(d, kids()), 3, false)
	found(t, keys.New(d, kids()), "b", "a", 5)
	many(t, keys.New(d, kids()), 6)
}

// P15.2: what is handed in isn't changed: neither the document, nor the list, nor the room behind its end.
func TestNotChanged(t *testing.T) {
	d := a(t)
	if err := d.SetFocus(7); err != nil {
		t.Fatal(err)
	}
	was := all(d)
	room := []int{9, 7, 2, 5, 3, 8, 8, 8}
	list := slices.Clone(room)
	m := keys.New(d, list[:5])
	found(t, m, "p", "a", 7)
	for _, id := range []int{7, 2, 9, 5, 3} {
		m.Drop(id)
		m.Find("p", "a")
		m.Len()
	}
	if !slices.Equal(list, room) {
		t.Errorf("the list is %v, not %v", list, room)
	}
	if got := all(d); got != was {
		t.Errorf("the document is %s, not %s", got, was)
	}
}

// P15.2: the list that is handed in is kept till the map is first asked: what is written into it by then is seen, later it isn't.
func TestListIsKept(t *testing.T) {
	for _, c := range asks {
		d := a(t)
		list := []int{2, 5, 6, 7}
		m := keys.New(d, list[:3])
		list[0] = 9
		c.ask(m)
		was := func() {
			t.Helper()
			found(t, m, "p", "c", 9)
			found(t, m, "b", "a", 5)
			found(t, m, "p", "b", 6)
			found(t, m, "p", "a", 0)
			many(t, m, 3)
		}
		was()
		copy(list, []int{7, 7, 7})
		was()
		drop(t, m, 7, false)
		drop(t, m, 5, true)
		drop(t, m, 9, true)
		drop(t, m, 6, true)
		if !slices.Equal(list, []int{7, 7, 7, 7}) {
			t.Errorf("the list is changed: %v", list)
		}
		if t.Failed() {
			t.Fatalf("asked first by %s", c.what)
		}
	}
}

// P15.2: of a nil document there is nothing.
func TestNilDocument(t *testing.T) {
	for _, ids := range [][]int{nil, {}, {1}, {2, 3}, far} {
		for _, c := range asks {
			m := keys.New(nil, ids)
			if m == nil {
				t.Fatalf("New(nil, %v): nil", ids)
			}
			c.ask(m)
			for range 2 {
				found(t, m, "p", "a", 0)
				found(t, m, "root", "", 0)
				found(t, m, "", "", 0)
				for _, id := range append(far, 1, 2, 3) {
					drop(t, m, id, false)
				}
				many(t, m, 0)
			}
		}
	}
}

// P15.1: maps of the same nodes are apart: what one dropped, the others have.
func TestApart(t *testing.T) {
	d, ids := a(t), kids()
	m, other := keys.New(d, ids), keys.New(d, ids)
	found(t, m, "p", "a", 2)
	found(t, other, "p", "a", 2)
	drop(t, m, 2, true)
	found(t, m, "p", "a", 7)
	found(t, other, "p", "a", 2)
	drop(t, other, 7, true)
	many(t, m, 5)
	many(t, other, 5)
	drop(t, m, 7, true)
	found(t, m, "p", "a", 0)
	found(t, other, "p", "a", 2)
	found(t, keys.New(d, ids), "p", "a", 2)
}

// P1: ids that are told more than once end in an answer, too: one that was dropped isn't there any more.
func TestToldTwice(t *testing.T) {
	m := keys.New(a(t), []int{7, 2, 7, 7, 3, 3, 2})
	found(t, m, "p", "a", 7)
	drop(t, m, 7, true)
	drop(t, m, 7, false)
	found(t, m, "p", "a", 2)
	drop(t, m, 2, true)
	found(t, m, "p", "a", 0)
	many(t, m, 0)
}

// plain is the chapter's words, told another way: the document as it was when the map was first asked, all ids, and those that were dropped.
type plain struct {
	d       *dom.Doc
	ids     []int
	dropped []int
}

func newPlain(d *dom.Doc, ids []int) *plain { return &plain{d: d.Clone(), ids: slices.Clone(ids)} }

func (p *plain) is(id int, tag, key string) bool {
	n, ok := p.d.Node(id)
	return ok && n.Tag == tag && n.Key == key && p.has(id)
}

func (p *plain) has(id int) bool {
	n, ok := p.d.Node(id)
	return ok && n.Tag != "" && n.Key != "" && slices.Contains(p.ids, id) && !slices.Contains(p.dropped, id)
}

func (p *plain) find(tag, key string) int {
	for _, id := range p.ids {
		if p.is(id, tag, key) {
			return id
		}
	}
	return 0
}

func (p *plain) drop(id int) bool {
	had := p.has(id)
	p.dropped = append(p.dropped, id)
	return had
}

func (p *plain) len() int {
	n := 0
	for _, id := range p.ids {
		if p.has(id) {
			n++
		}
	}
	return n
}

// tags and named are those that the documents made here have, and some that they don't.
var (
	tags  = []string{"p", "b", "br", "root", "ab", "", "x"}
	named = []string{"a", "b", "bc", "c", "", "p"}
)

// agree holds all that is found, and how many there are, against the plain one: P15.3 too.
func agree(t *testing.T, m *keys.Map, p *plain) {
	t.Helper()
	if got, want := m.Len(), p.len(); got != want {
		t.Errorf("Len: %d, not %d: of %v, without %v", got, want, p.ids, p.dropped)
	}
	for _, tag := range tags {
		for _, key := range named {
			id, ok := m.Find(tag, key)
			if want := p.find(tag, key); id != want || ok != (want != 0) {
				t.Errorf("Find(%q, %q): %d, %v, not %d: of %v, without %v", tag, key, id, ok, want, p.ids, p.dropped)
			}
			if n, there := p.d.Node(id); ok && (!there || n.Tag != tag || n.Key != key || !slices.Contains(p.ids, id)) {
				t.Errorf("Find(%q, %q): %d, which is %#v, of %v", tag, key, id, n, p.ids)
			}
		}
	}
}

// orders are all lists of some of l, each once, in every order.
func orders(l []int) [][]int {
	all := [][]int{nil}
	for i, x := range l {
		for _, rest := range orders(slices.Concat(l[:i], l[i+1:])) {
			all = append(all, slices.Concat([]int{x}, rest))
		}
	}
	return all
}

// P15.1, P15.3: all lists of some of six nodes, in every order, dropped in every order.
func TestAllSmall(t *testing.T) {
	d := fresh(t, 8)
	do(t, d, element(2, "p", "a"), element(3, "p", "a"), element(4, "b", "a"), element(5, "p", "b"), element(6, "p", ""), text(7, "a"), element(8, "p", "a"), put(3, 1), put(2, 1))
	lists, drops := orders([]int{2, 3, 4, 5, 6, 7}), orders([]int{2, 3, 4, 5})
	if len(lists) != 1957 || len(drops) != 65 {
		t.Fatalf("%d lists, %d drops", len(lists), len(drops))
	}
	for _, ids := range lists {
		for _, l := range drops {
			if len(l) == 4 || len(ids) == 6 && len(l) < 4 {
				m, p := keys.New(d, ids), newPlain(d, ids)
				for _, id := range l {
					if got, want := m.Drop(id), p.drop(id); got != want {
						t.Fatalf("of %v: Drop(%d): %v, not %v, of %v", ids, id, got, want, p.dropped)
					}
				}
				found(t, m, "p", "a", p.find("p", "a"))
				found(t, m, "b", "a", p.find("b", "a"))
				many(t, m, p.len())
			}
		}
		m, p := keys.New(d, ids), newPlain(d, ids)
		if agree(t, m, p); t.Failed() {
			t.Fatalf("of %v", ids)
		}
	}
}

// P15.1, P15.3: lists in every order, each step looked at.
func TestAllSteps(t *testing.T) {
	d := fresh(t, 6)
	do(t, d, element(2, "p", "a"), element(3, "p", "a"), element(4, "p", "a"), element(5, "b", "a"))
	for _, ids := range orders([]int{2, 3, 4, 5}) {
		for _, l := range orders([]int{2, 3, 4, 5}) {
			m, p := keys.New(d, ids), newPlain(d, ids)
			agree(t, m, p)
			for _, id := range slices.Concat(l, l) {
				if got, want := m.Drop(id), p.drop(id); got != want {
					t.Errorf("of %v: Drop(%d): %v, not %v, of %v", ids, id, got, want, p.dropped)
				}
				agree(t, m, p)
			}
			if t.Failed() {
				t.FailNow()
			}
		}
	}
}

// some makes a change on a document that may be refused: nothing is changed then.
func some(d *dom.Doc, pick func(n int) int) {
	id := func() int { return pick(d.Next()+2) - 1 }
	switch pick(6) {
	case 0:
		_ = d.Apply(text(d.Next(), named[pick(len(named))]))
	case 1:
		_ = d.Apply(put(id(), id()))
	case 2:
		_ = d.Apply(gone(id()))
	default:
		_ = d.Apply(element(d.Next(), tags[pick(5)], named[pick(len(named))]))
	}
}

// shuffled are some identities, each once, there or not.
func shuffled(d *dom.Doc, pick func(n int) int) []int {
	var l []int
	for id := -1; id < d.Next()+2; id++ {
		if pick(4) != 0 {
			l = slices.Insert(l, pick(len(l)+1), id)
		}
	}
	return l
}

// run makes a document by chance, a map of it, changes ahead of the first ask, and asks and changes behind it.
func run(t *testing.T, pick func(n int) int) {
	t.Helper()
	d := fresh(t, 1+pick(60))
	for range pick(80) {
		some(d, pick)
	}
	ids := shuffled(d, pick)
	m := keys.New(d, ids)
	for range pick(6) {
		some(d, pick)
	}
	var p *plain
	asked := func() *plain {
		if p == nil {
			p = newPlain(d, ids)
		}
		return p
	}
	for more := true; more; more = pick(40) != 0 {
		switch pick(4) {
		case 0:
			some(d, pick)
		case 1:
			agree(t, m, asked())
		default:
			id := pick(d.Next()+2) - 1
			if got, want := m.Drop(id), asked().drop(id); got != want {
				t.Errorf("Drop(%d): %v, not %v: of %v, without %v", id, got, want, p.ids, p.dropped)
			}
		}
	}
	agree(t, m, asked())
	if !slices.Equal(ids, p.ids) {
		t.Errorf("the list is %v, not %v", ids, p.ids)
	}
}

// P15.1, P15.2, P15.3: by chance, by a fixed seed.
func TestRuns(t *testing.T) {
	r := rand.New(rand.NewSource(15))
	for i := range 3000 {
		if run(t, r.Intn); t.Failed() {
			t.Fatalf("run %d", i)
		}
	}
}

// P1: full documents, of one tag and key alone, or each of its own; lists of very many that aren't there, and of the root told very often.
func TestGreat(t *testing.T) {
	same, apart := fresh(t, 200), fresh(t, 200)
	var ids []int
	for id := 2; id <= 200; id++ {
		do(t, same, element(id, "p", "a"), put(id, 1))
		do(t, apart, element(id, "p", strings.Repeat("k", 57)+fmt.Sprint(id)), put(id, 1))
		ids = append(ids, id)
	}
	m := keys.New(same, ids)
	for _, id := range ids {
		many(t, m, 201-id)
		found(t, m, "p", "a", id)
		drop(t, m, id, true)
	}
	found(t, m, "p", "a", 0)
	m = keys.New(apart, ids)
	for _, id := range slices.Backward(ids) {
		found(t, m, "p", strings.Repeat("k", 57)+fmt.Sprint(id), id)
		drop(t, m, id, true)
		found(t, m, "p", strings.Repeat("k", 57)+fmt.Sprint(id), 0)
		many(t, m, id-2)
	}
	var long []int
	for i := range 1 << 20 {
		long = append(long, 1000+i)
	}
	m = keys.New(same, slices.Concat(long, []int{200, 2}, make([]int, 1<<20)))
	found(t, m, "p", "a", 200)
	drop(t, m, 1000, false)
	many(t, m, 2)
	m = keys.New(same, slices.Repeat([]int{1}, 1<<16))
	many(t, m, 0)
}

// P15.1: asked first by many at once, the map is made once: all of them see the same (go test -race sees more).
func TestAtOnce(t *testing.T) {
	d := a(t)
	for range 50 {
		m := keys.New(d, []int{7, 2, 5, 3})
		var wait sync.WaitGroup
		for i := range 6 {
			wait.Add(1)
			go func() {
				defer wait.Done()
				if i%2 == 0 {
					many(t, m, 3)
				}
				found(t, m, "p", "a", 7)
				found(t, m, "b", "a", 5)
				many(t, m, 3)
			}()
		}
		wait.Wait()
	}
}

// P1: nothing is kept beside a map: maps of documents that differ may be asked by a goroutine each (go test -race sees it).
func TestApartAtOnce(t *testing.T) {
	d := a(t)
	ends := make(chan string)
	for range 4 {
		c := d.Clone()
		go func() {
			s := ""
			for range 50 {
				m := keys.New(c, kids())
				id, ok := m.Find("p", "a")
				s = fmt.Sprint(id, ok, m.Drop(2), m.Drop(2), m.Len())
			}
			ends <- s
		}()
	}
	for range 4 {
		if got, want := <-ends, "2 true true false 5"; got != want {
			t.Errorf("%s, not %s", got, want)
		}
	}
}

// P1: a goal for go test -fuzz; its seeds run in every test. Each byte picks something.
func FuzzKeys(f *testing.F) {
	for _, s := range []string{
		"", "\x00", "\x3b\x05\x03\x00\x00\x03\x00\x00\x03\x01\x00", "\x3b\x4f" + strings.Repeat("\x05\x00\x00\x04\x01\x00\x03\x00\x01", 12),
		"\x08\x06" + strings.Repeat("\x03\x00\x00", 6) + strings.Repeat("\x01\x00", 9) + "\x02\x02\x03\x01" + strings.Repeat("\x01\x02\x04", 9),
	} {
		f.Add([]byte(s))
	}
	f.Fuzz(func(t *testing.T, in []byte) {
		if len(in) > 2000 {
			return
		}
		run(t, func(n int) int {
			if len(in) == 0 {
				return 0
			}
			x := int(in[0]) % n
			in = in[1:]
			return x
		})
	})
}
