package mut_test

import (
	"fmt"
	"math"
	"math/rand"
	"slices"
	"strings"
	"testing"

	"placket/api"
	"placket/dom"
	"placket/mut"
)

// far are numbers, the smallest and the greatest among them, that no change and no node of a small document has.
var far = []int{-1, -2, -5, -200, 201, 1 << 20, -1 << 20, math.MinInt32, math.MaxInt32, math.MinInt, math.MinInt + 1, math.MaxInt - 1, math.MaxInt, 1 << 32, 1<<32 + 1, 1<<32 + 3}

// is holds an error against a Code (0: none): the Code itself, not one that has it within.
func is(err error, c api.Code) bool {
	if c == 0 || err == nil {
		return c == 0 && err == nil
	}
	got, ok := err.(api.Code)
	return ok && got == c
}

func fresh(t *testing.T, room int) *dom.Doc {
	t.Helper()
	d, err := dom.New(room)
	if d == nil || err != nil {
		t.Fatalf("New(%d): %v, %v", room, d, err)
	}
	return d
}

// Changes.
func element(id int, tag string) api.Rec    { return api.Rec{Op: api.Make, Id: id, Tag: tag} }
func keyed(id int, tag, key string) api.Rec { return api.Rec{Op: api.Make, Id: id, Tag: tag, Key: key} }
func text(id int, s string) api.Rec         { return api.Rec{Op: api.Make, Id: id, Text: s} }
func put(id, parent, before int) api.Rec {
	return api.Rec{Op: api.Put, Id: id, Parent: parent, Before: before}
}
func gone(id int) api.Rec                 { return api.Rec{Op: api.Gone, Id: id} }
func attrs(id int, l ...api.Attr) api.Rec { return api.Rec{Op: api.Attrs, Id: id, Attrs: l} }
func data(id int, s string) api.Rec       { return api.Rec{Op: api.Data, Id: id, Text: s} }

// show tells a change.
func show(r api.Rec) string {
	return fmt.Sprintf("%d: %d below %d before %d, %q %q %q, %s", r.Op, r.Id, r.Parent, r.Before, r.Tag, r.Text, r.Key, showAttrs(r.Attrs))
}

func showAttrs(l []api.Attr) string {
	s := ""
	for _, a := range l {
		s += fmt.Sprintf("%q=%q %v;", a.Name, a.Value, a.Static)
	}
	return s
}

// shown tells each of some changes.
func shown(l []api.Rec) []string {
	var s []string
	for _, r := range l {
		s = append(s, show(r))
	}
	return s
}

// state tells all that a document tells.
func state(d *dom.Doc) string {
	s := fmt.Sprint(d.Ids(), d.Next(), d.Free(), d.Focus())
	for _, id := range d.Ids() {
		n, ok := d.Node(id)
		s += fmt.Sprintf("\n%d below %d: %q %q %q, %s, kids %v, note %d, %v", n.Id, n.Parent, n.Tag, n.Text, n.Key, showAttrs(n.Attrs), n.Kids, n.Note, ok)
	}
	return s
}

// a is a document that many tests begin with: below the root a p (2), which has a text (3), a p (4) and a br (5); the p (4)
// has a text (6); a p (7) and a text (8) are behind the p (2); a p (9) is nowhere, and has a text (10); 11 is gone. The focus
// is 6, and 4 has a note.
func a(t *testing.T, room int) *dom.Doc {
	t.Helper()
	d := fresh(t, room)
	for _, r := range []api.Rec{
		element(2, "p"), text(3, "x"), keyed(4, "p", "k"), element(5, "br"), text(6, ""), element(7, "p"), text(8, "y"),
		element(9, "p"), text(10, "z"), element(11, "p"),
		put(2, 1, 0), put(3, 2, 0), put(4, 2, 0), put(5, 2, 0), put(6, 4, 0), put(7, 1, 0), put(8, 1, 0), put(10, 9, 0),
		attrs(2, api.Attr{Name: "a", Value: "1"}, api.Attr{Name: "b", Value: "2", Static: true}), gone(11),
	} {
		if err := d.Apply(r); err != nil {
			t.Fatalf("Apply(%s): %v", show(r), err)
		}
	}
	if d.SetFocus(6) != nil || d.Note(4, 44) != nil {
		t.Fatal("the focus, or a note")
	}
	return d
}

// plain is a log told another way: the log, a document as its one was at first, and one to which each change was applied by
// hand; what should be in the log is kept as texts, so that nothing that is told can change it.
type plain struct {
	d, first, twin *dom.Doc
	l              *mut.Log
	done           []string
}

func begin(t *testing.T, d *dom.Doc) *plain {
	t.Helper()
	p := &plain{d: d, first: d.Clone(), twin: d.Clone(), l: mut.New(d)}
	if p.l == nil {
		t.Fatal("New: nil")
	}
	p.agree(t, "at first")
	return p
}

// do does a change by the log, and by hand, and holds what is told behind it.
func (p *plain) do(t *testing.T, r api.Rec) error {
	t.Helper()
	told := show(r)
	want, got := p.twin.Apply(r), p.l.Do(r)
	if (got == nil) != (want == nil) || got != nil && !is(got, want.(api.Code)) {
		t.Errorf("Do(%s): %v, not %v", told, got, want)
	}
	if want == nil {
		p.done = append(p.done, told)
	}
	p.agree(t, "behind "+told)
	return got
}

// must does a change whose error, or none, a test names itself.
func (p *plain) must(t *testing.T, r api.Rec, want api.Code) {
	t.Helper()
	was := state(p.d)
	if err := p.do(t, r); !is(err, want) {
		t.Errorf("Do(%s): %v, not %v", show(r), err, want)
	}
	if got := state(p.d); want != 0 && got != was {
		t.Errorf("Do(%s), refused, changed the document: %s, not %s", show(r), got, was)
	}
}

// agree holds the document and the log against what was done.
func (p *plain) agree(t *testing.T, when string) {
	t.Helper()
	if got, want := state(p.d), state(p.twin); got != want {
		t.Errorf("%s: the document: %s, not %s", when, got, want)
	}
	if got := shown(p.l.All()); !slices.Equal(got, p.done) {
		t.Errorf("%s: All: %q, not %q", when, got, p.done)
	}
}

// replayed holds P7.3: what All tells, replayed on a copy of what was at first, makes what is, once more, too.
func (p *plain) replayed(t *testing.T) {
	t.Helper()
	was := state(p.d)
	for range 2 {
		c := p.first.Clone()
		if err := mut.Replay(c, p.l.All()); err != nil {
			t.Errorf("Replay of %q: %v", p.done, err)
		}
		if got := state(c); got != was {
			t.Errorf("replayed, %q: %s, not %s", p.done, got, was)
		}
		if c.Apply(element(p.d.Next(), "p")) != nil && p.d.Free() > 0 {
			t.Errorf("replayed, %q: the next identity isn't %d", p.done, p.d.Next())
		}
	}
	p.agree(t, "behind Replay")
	if got := state(p.d); got != was {
		t.Errorf("Replay on a copy changed the document: %s, not %s", got, was)
	}
}

// P7.1: a log of a document, at first: no changes, and the document is as it was.
func TestNew(t *testing.T) {
	for _, d := range []*dom.Doc{fresh(t, 1), fresh(t, 200), a(t, 11)} {
		was := state(d)
		l := mut.New(d)
		if l == nil {
			t.Fatal("New: nil")
		}
		for range 2 {
			if all := l.All(); len(all) != 0 {
				t.Errorf("All: %v", all)
			}
		}
		if got := state(d); got != was {
			t.Errorf("New changed the document: %s, not %s", got, was)
		}
		begin(t, d).replayed(t)
	}
}

// kinds are changes of each kind, that may be and that may not be.
func kinds() []api.Rec {
	l := []api.Rec{
		{}, element(2, "p"), text(2, "x"), element(0, ""), put(2, 1, 0), put(1, 1, 1), gone(1), gone(2), attrs(1), attrs(1, api.Attr{Name: "a"}),
		attrs(1, api.Attr{}), data(3, "x"), data(0, "\n"), {Op: 6, Id: 1},
	}
	for _, n := range far {
		l = append(l, api.Rec{Op: n, Id: 1}, element(n, "p"), put(n, n, n), gone(n), attrs(n), data(n, "x"))
	}
	return l
}

// P7.1: a log of no document: each change is ErrArg, and no one is in the log.
func TestNilDocument(t *testing.T) {
	l := mut.New(nil)
	if l == nil {
		t.Fatal("New(nil): nil")
	}
	for _, r := range kinds() {
		if err := l.Do(r); !is(err, api.ErrArg) {
			t.Errorf("Do(%s): %v, not ErrArg", show(r), err)
		}
		if all := l.All(); len(all) != 0 {
			t.Errorf("All behind Do(%s): %v", show(r), all)
		}
	}
}

// P7.1: each kind of change, done; what is there and in the log then, by hand.
func TestDo(t *testing.T) {
	d := fresh(t, 4)
	l := mut.New(d)
	var log []string
	node := func(id int) string {
		n, ok := d.Node(id)
		return fmt.Sprintf("%d %q %q %q %s %v %v", n.Parent, n.Tag, n.Text, n.Key, showAttrs(n.Attrs), n.Kids, ok)
	}
	for _, c := range []struct {
		r    api.Rec
		id   int
		want string
	}{
		{keyed(2, "p", "k"), 2, `0 "p" "" "k"  [] true`},
		{put(2, 1, 0), 1, `0 "root" "" ""  [2] true`},
		{text(3, "x"), 3, `0 "" "x" ""  [] true`},
		{put(3, 1, 2), 1, `0 "root" "" ""  [3 2] true`},
		{data(3, "y"), 3, `1 "" "y" ""  [] true`},
		{attrs(2, api.Attr{Name: "a", Value: "1"}, api.Attr{Name: "b", Static: true}), 2, `1 "p" "" "k" "a"="1" false;"b"="" true; [] true`},
		{put(3, 2, 0), 2, `1 "p" "" "k" "a"="1" false;"b"="" true; [3] true`},
		{attrs(2), 2, `1 "p" "" "k"  [3] true`},
		{gone(2), 3, `0 "" "" ""  [] false`},
		{element(4, "br"), 4, `0 "br" "" ""  [] true`},
	} {
		if err := l.Do(c.r); err != nil {
			t.Errorf("Do(%s): %v", show(c.r), err)
		}
		if got := node(c.id); got != c.want {
			t.Errorf("behind %s: %s, not %s", show(c.r), got, c.want)
		}
		log = append(log, show(c.r))
		if got := shown(l.All()); !slices.Equal(got, log) {
			t.Errorf("behind %s: All: %q, not %q", show(c.r), got, log)
		}
	}
	if !slices.Equal(d.Ids(), []int{1, 4}) || d.Next() != 5 || d.Free() != 2 {
		t.Errorf("Ids %v, Next %d, Free %d", d.Ids(), d.Next(), d.Free())
	}
}

// full is a in a room of 11, with a text (12), that is nowhere: there is no more room.
func full(t *testing.T) *dom.Doc {
	t.Helper()
	d := a(t, 11)
	if err := d.Apply(text(12, "t")); err != nil || d.Free() != 0 {
		t.Fatalf("full: %v, Free %d", err, d.Free())
	}
	return d
}

// refusal is a change that is refused, and its error.
type refusal struct {
	r   api.Rec
	err api.Code
}

// refused are changes of each kind with each error that it may have, of full.
func refused() []refusal {
	return []refusal{
		{element(12, "p"), api.ErrArg}, {element(14, "p"), api.ErrArg}, {element(13, "P"), api.ErrArg}, {keyed(13, "p", "\n"), api.ErrArg},
		{text(13, "\n"), api.ErrArg}, {keyed(13, "", "k"), api.ErrArg}, {api.Rec{Op: api.Make, Id: 13, Tag: "p", Text: "x"}, api.ErrArg},
		{element(13, "p"), api.ErrFull}, {text(13, "x"), api.ErrFull},
		{put(11, 1, 0), api.ErrNone}, {put(2, 11, 0), api.ErrNone}, {put(2, 1, 11), api.ErrNone}, {put(0, 1, 0), api.ErrNone},
		{put(1, 2, 0), api.ErrRoot}, {put(2, 3, 0), api.ErrKind}, {put(2, 5, 0), api.ErrKind}, {put(7, 2, 8), api.ErrArg}, {put(7, 1, 7), api.ErrArg},
		{put(2, 2, 0), api.ErrCycle}, {put(2, 4, 6), api.ErrCycle},
		{gone(11), api.ErrNone}, {gone(0), api.ErrNone}, {gone(1), api.ErrRoot},
		{attrs(11), api.ErrNone}, {attrs(3), api.ErrKind}, {attrs(2, api.Attr{Name: "a"}, api.Attr{Name: "a"}), api.ErrArg}, {attrs(2, api.Attr{}), api.ErrArg},
		{data(11, "x"), api.ErrNone}, {data(2, "x"), api.ErrKind}, {data(3, "\n"), api.ErrArg},
		{api.Rec{}, api.ErrArg}, {api.Rec{Op: 6, Id: 2}, api.ErrArg}, {api.Rec{Op: -1, Id: 2}, api.ErrArg},
	}
}

// P7.1: the layer below's errors: each is told as it is; what fails isn't in the log, and changes nothing, be it the first or not.
func TestDoRefused(t *testing.T) {
	for _, c := range refused() {
		p := begin(t, full(t))
		p.must(t, c.r, c.err)
		p.must(t, data(3, "new"), 0)
		p.must(t, c.r, c.err)
		p.must(t, put(8, 1, 2), 0)
		p.must(t, c.r, c.err)
		p.replayed(t)
	}
}

// P7.1: several changes, in order, behind some that failed.
func TestAll(t *testing.T) {
	did := []api.Rec{element(12, "p"), put(12, 1, 2), put(10, 12, 0), data(10, "new"), attrs(12, api.Attr{Name: "z"}), gone(2), gone(9), text(13, "13"), put(13, 12, 10)}
	p := begin(t, a(t, 11))
	for _, r := range did {
		for _, c := range []refusal{
			{element(11, "p"), api.ErrArg}, {put(11, 1, 0), api.ErrNone}, {put(1, 1, 0), api.ErrRoot}, {put(7, 8, 0), api.ErrKind}, {put(7, 7, 0), api.ErrCycle},
			{gone(11), api.ErrNone}, {gone(1), api.ErrRoot}, {attrs(8), api.ErrKind}, {data(8, "\n"), api.ErrArg}, {api.Rec{}, api.ErrArg},
		} {
			p.must(t, c.r, c.err)
		}
		p.must(t, r, 0)
	}
	p.must(t, gone(2), api.ErrNone)
	if got := shown(p.l.All()); !slices.Equal(got, shown(did)) {
		t.Errorf("All: %q, not %q", got, shown(did))
	}
	if n, _ := p.d.Node(12); !slices.Equal(n.Kids, []int{13, 10}) || p.d.Focus() != 0 {
		t.Errorf("12: %v, the focus: %d", n, p.d.Focus())
	}
	p.replayed(t)
}

// P7.1: the same change, done twice, is in the log twice; so is one that changes nothing.
func TestTwice(t *testing.T) {
	p := begin(t, a(t, 11))
	for _, r := range []api.Rec{data(3, "x"), data(3, "x"), attrs(4), attrs(4), put(8, 1, 0), put(8, 1, 0), put(2, 1, 7), put(2, 1, 7)} {
		p.must(t, r, 0)
	}
	if got := len(p.l.All()); got != 8 {
		t.Errorf("%d changes, not 8", got)
	}
	p.replayed(t)
}

// P7.2: a change is kept as it was handed in, with what its kind doesn't name.
func TestKeptAsHandedIn(t *testing.T) {
	l := []api.Attr{{Name: "a", Value: "\n"}, {Name: "a"}}
	p := begin(t, a(t, 11))
	for _, r := range []api.Rec{
		{Op: api.Make, Id: 12, Parent: 7, Before: -8, Tag: "p", Attrs: l},
		{Op: api.Put, Id: 8, Parent: 2, Before: 3, Tag: "P", Text: "\x00", Key: "k", Attrs: l},
		{Op: api.Attrs, Id: 4, Parent: 99, Before: 98, Tag: "b", Text: "t", Key: "key", Attrs: []api.Attr{{Name: "d"}}},
		{Op: api.Data, Id: 3, Parent: -1, Before: 1, Tag: "x", Text: "t", Key: "\n", Attrs: l},
		{Op: api.Gone, Id: 2, Parent: 1, Before: 7, Tag: "x", Text: "t", Key: "z", Attrs: l},
	} {
		p.must(t, r, 0)
		if all := p.l.All(); show(all[len(all)-1]) != show(r) {
			t.Errorf("All: %s, not %s", show(all[len(all)-1]), show(r))
		}
	}
	p.replayed(t)
}

// P7.1: a log's document is the one that was handed in: what is done to it elsewhere is there, but in no log of others.
func TestSameDocument(t *testing.T) {
	d := fresh(t, 9)
	one, other := mut.New(d), mut.New(d)
	for _, err := range []error{one.Do(element(2, "p")), d.Apply(put(2, 1, 0)), other.Do(text(3, "x")), one.Do(put(3, 2, 0)), d.Apply(data(3, "y")), other.Do(gone(3))} {
		if err != nil {
			t.Fatal(err)
		}
	}
	if err := one.Do(data(3, "z")); !is(err, api.ErrNone) {
		t.Errorf("Do of what another one let go: %v, not ErrNone", err)
	}
	if err := d.Apply(gone(2)); err != nil {
		t.Fatal(err)
	}
	if err := other.Do(attrs(2)); !is(err, api.ErrNone) {
		t.Errorf("Do of what is gone: %v, not ErrNone", err)
	}
	for _, c := range []struct {
		l    *mut.Log
		want []api.Rec
	}{{one, []api.Rec{element(2, "p"), put(3, 2, 0)}}, {other, []api.Rec{text(3, "x"), gone(3)}}, {mut.New(d), nil}} {
		if got := shown(c.l.All()); !slices.Equal(got, shown(c.want)) {
			t.Errorf("All: %q, not %q", got, shown(c.want))
		}
	}
	if !slices.Equal(d.Ids(), []int{1}) || d.Next() != 4 {
		t.Errorf("Ids %v, Next %d", d.Ids(), d.Next())
	}
	// A clone isn't the log's document.
	c := d.Clone()
	if err := one.Do(element(4, "p")); err != nil || c.Next() != 4 || d.Next() != 5 {
		t.Errorf("Do: %v, Next %d, of the clone %d", err, d.Next(), c.Next())
	}
}

// P7.1: Replay on no document is ErrArg, without changes, too.
func TestReplayNil(t *testing.T) {
	for _, l := range [][]api.Rec{nil, {}, {{}}, {element(2, "p"), put(2, 1, 0)}, {gone(1)}, kinds()} {
		if err := mut.Replay(nil, l); !is(err, api.ErrArg) {
			t.Errorf("Replay(nil, %d changes): %v, not ErrArg", len(l), err)
		}
	}
}

// P7.1: Replay of no changes changes nothing.
func TestReplayNone(t *testing.T) {
	for _, d := range []*dom.Doc{fresh(t, 1), a(t, 11)} {
		for _, l := range [][]api.Rec{nil, {}} {
			was := state(d)
			if err := mut.Replay(d, l); err != nil {
				t.Errorf("Replay of none: %v", err)
			}
			if got := state(d); got != was {
				t.Errorf("Replay of none: %s, not %s", got, was)
			}
		}
	}
}

// P7.1: Replay, all done, by hand; on a document that has a log, it isn't in that.
func TestReplay(t *testing.T) {
	d := fresh(t, 4)
	l := mut.New(d)
	err := mut.Replay(d, []api.Rec{
		element(2, "p"), put(2, 1, 0), text(3, "x"), put(3, 2, 0), data(3, "y"), attrs(2, api.Attr{Name: "a", Value: "1"}), keyed(4, "b", "k"),
		put(4, 2, 3), gone(3),
	})
	if err != nil {
		t.Fatalf("Replay: %v", err)
	}
	want := "[1 2 4] 5 1 0\n" +
		`1 below 0: "root" "" "", , kids [2], note 0, true` + "\n" +
		`2 below 1: "p" "" "", "a"="1" false;, kids [4], note 0, true` + "\n" +
		`4 below 2: "b" "" "k", , kids [], note 0, true`
	if got := state(d); got != want {
		t.Errorf("replayed: %s, not %s", got, want)
	}
	if all := l.All(); len(all) != 0 {
		t.Errorf("All of another log: %v", all)
	}
}

// P7.1: Replay of changes of which one fails: the first, one between others, or the last. Those ahead are done, those behind aren't.
func TestReplayRefused(t *testing.T) {
	good := []api.Rec{data(3, "new"), put(8, 1, 2), attrs(4, api.Attr{Name: "z"}), put(4, 9, 10)}
	for _, c := range refused() {
		for at := 0; at <= len(good); at++ {
			for _, more := range [][]api.Rec{nil, {gone(11)}, {gone(1), {}}} {
				d, want := full(t), full(t)
				for _, r := range good[:at] {
					if err := want.Apply(r); err != nil {
						t.Fatal(err)
					}
				}
				// What c is refused for may be otherwise behind the changes ahead of it.
				var code api.Code
				if err := want.Clone().Apply(c.r); err != nil {
					code = err.(api.Code)
				}
				if at == 0 && code != c.err {
					t.Errorf("Apply(%s): %v, not %v", show(c.r), code, c.err)
				}
				if code == 0 {
					continue
				}
				err := mut.Replay(d, slices.Concat(good[:at], []api.Rec{c.r}, more, good[at:]))
				if !is(err, code) {
					t.Errorf("Replay, %s at %d: %v, not %v", show(c.r), at, err, code)
				}
				if got, want := state(d), state(want); got != want {
					t.Errorf("Replay, %s at %d: %s, not %s", show(c.r), at, got, want)
				}
			}
		}
	}
}

// P7.1: of two that fail, the first one's error is told, by hand.
func TestReplayFirstError(t *testing.T) {
	for _, c := range []struct {
		l    []api.Rec
		want api.Code
		ids  []int
	}{
		{[]api.Rec{gone(1), gone(5)}, api.ErrRoot, []int{1}},
		{[]api.Rec{gone(5), gone(1)}, api.ErrNone, []int{1}},
		{[]api.Rec{element(2, "p"), {}, gone(1), element(3, "p")}, api.ErrArg, []int{1, 2}},
		{[]api.Rec{element(2, "p"), element(2, "p"), element(3, "p")}, api.ErrArg, []int{1, 2}},
		{[]api.Rec{element(2, "p"), element(3, "p"), put(2, 2, 0)}, api.ErrCycle, []int{1, 2, 3}},
		{[]api.Rec{element(2, "p"), element(3, "p"), element(4, "p"), gone(1)}, api.ErrFull, []int{1, 2, 3}},
		{[]api.Rec{element(2, "br"), text(3, "x"), put(3, 2, 0), gone(2)}, api.ErrKind, []int{1, 2, 3}},
	} {
		d := fresh(t, 3)
		if err := mut.Replay(d, c.l); !is(err, c.want) || !slices.Equal(d.Ids(), c.ids) {
			t.Errorf("Replay(%q): %v, not %v; Ids %v, not %v", shown(c.l), err, c.want, d.Ids(), c.ids)
		}
	}
}

// spoil overwrites all that a list has, and what lies behind its end.
func spoil[T any](l []T, x T) {
	l = l[:cap(l)]
	for i := range l {
		l[i] = x
	}
}

var bad = api.Attr{Name: "bad", Value: "\n", Static: true}

// P7.2: what All told, written to, changes no log, no document, and nothing that was told another time.
func TestToldIsNew(t *testing.T) {
	p := begin(t, a(t, 20))
	one := []api.Attr{{Name: "a", Value: "1"}, {Name: "b", Static: true}}
	for _, r := range []api.Rec{attrs(2, one...), attrs(4, one...), attrs(7), put(8, 1, 2), {Op: api.Put, Id: 3, Parent: 1, Attrs: one}, element(12, "p"), attrs(12, one[:1]...)} {
		p.must(t, r, 0)
		told, again := p.l.All(), p.l.All()
		for i := range told {
			spoil(told[i].Attrs, bad)
			_ = append(again[i].Attrs, bad)
		}
		p.agree(t, "what All told was changed")
		if got := shown(again); !slices.Equal(got, p.done) {
			t.Errorf("two told share memory: %q, not %q", got, p.done)
		}
		spoil(told, api.Rec{Op: 99, Id: 99, Attrs: []api.Attr{bad}})
		_ = append(again, api.Rec{Op: 98})
		p.agree(t, "the list that All told was changed")
		if got := shown(again); !slices.Equal(got, p.done) {
			t.Errorf("two told share memory: %q, not %q", got, p.done)
		}
		// No two lists of one answer share any.
		for i := range again {
			spoil(again[i].Attrs, bad)
			for j := i + 1; j < len(again); j++ {
				if got := show(again[j]); got != p.done[j] {
					t.Errorf("the lists of %d and %d share memory: %s, not %s", i, j, got, p.done[j])
				}
			}
		}
	}
	// What was told stays, whatever is done.
	told := p.l.All()
	was := shown(told)
	for _, r := range []api.Rec{attrs(2), attrs(12, api.Attr{Name: "q"}), gone(4), gone(1), data(3, "q")} {
		_ = p.do(t, r)
		if got := shown(told); !slices.Equal(got, was) {
			t.Errorf("%s changed what was told: %q, not %q", show(r), got, was)
		}
	}
	p.replayed(t)
}

// P7.2: what was handed in to Do is neither changed, nor is it the document's or the log's memory.
func TestHandedInIsCopied(t *testing.T) {
	p := begin(t, a(t, 11))
	for _, id := range []int{1, 2, 5, 9} {
		list := make([]api.Attr, 2, 9)
		list[0], list[1] = api.Attr{Name: "a", Value: "1"}, api.Attr{Name: "b", Static: true}
		was := showAttrs(list[:9])
		p.must(t, attrs(id, list...), 0)
		p.must(t, attrs(id, list[:1]...), 0)
		p.must(t, attrs(id, list[:9]...), api.ErrArg)
		p.must(t, attrs(3, list...), api.ErrKind)
		// A list that the change's kind doesn't name is copied, too.
		p.must(t, api.Rec{Op: api.Put, Id: 8, Parent: 1, Attrs: list}, 0)
		p.must(t, attrs(id, list...), 0)
		if got := showAttrs(list[:9]); got != was {
			t.Errorf("Do changed the list: %s, not %s", got, was)
		}
		spoil(list, bad)
		p.agree(t, "what was handed in was changed")
		p.replayed(t)
	}
}

// P7.2: a list of changes that is replayed isn't changed, and isn't the document's memory.
func TestReplayCopies(t *testing.T) {
	for _, end := range []api.Rec{data(3, "new"), gone(1)} {
		d, twin := a(t, 11), a(t, 11)
		list := make([]api.Rec, 3, 9)
		attributes := make([]api.Attr, 1, 5)
		attributes[0] = api.Attr{Name: "a", Value: "1"}
		list[0], list[1], list[2] = attrs(4, attributes...), attrs(9, attributes...), end
		was := shown(list[:9])
		for _, r := range list {
			_ = twin.Apply(r)
		}
		if err := mut.Replay(d, list); (err == nil) != (end.Op == api.Data) {
			t.Errorf("Replay: %v", err)
		}
		if got := shown(list[:9]); !slices.Equal(got, was) {
			t.Errorf("Replay changed the list: %q, not %q", got, was)
		}
		spoil(attributes, bad)
		spoil(list, api.Rec{Op: 99})
		if got, want := state(d), state(twin); got != want {
			t.Errorf("what was replayed is the document's memory: %s, not %s", got, want)
		}
	}
}

// P7.2: what All told may be replayed on several documents: none of them is another one's, or the log's, memory.
func TestReplayOfAll(t *testing.T) {
	p := begin(t, a(t, 11))
	p.must(t, attrs(4, api.Attr{Name: "a"}), 0)
	p.must(t, attrs(4, api.Attr{Name: "b"}), 0)
	told := p.l.All()
	one, other := p.first.Clone(), p.first.Clone()
	if mut.Replay(one, told) != nil || mut.Replay(other, told) != nil {
		t.Fatal("Replay")
	}
	was := state(other)
	if err := one.Apply(attrs(4, api.Attr{Name: "c"})); err != nil {
		t.Fatal(err)
	}
	for i := range told {
		spoil(told[i].Attrs, bad)
	}
	if got := state(other); got != was {
		t.Errorf("two documents share memory: %s, not %s", got, was)
	}
	p.replayed(t)
}

// P7.3: by hand: on a copy that was made ahead, with its focus, its notes, and identities that were given already.
func TestReplayMakesIt(t *testing.T) {
	d := a(t, 13)
	first := d.Clone()
	l := mut.New(d)
	for _, r := range []api.Rec{
		element(12, "p"), text(13, "q"), put(13, 12, 0), put(12, 2, 5), gone(4), element(14, "b"), put(14, 12, 13), attrs(14, api.Attr{Name: "a", Static: true}),
		gone(14), element(15, "hr"), put(15, 1, 2), put(10, 12, 0), data(10, "w"),
	} {
		if err := l.Do(r); err != nil {
			t.Fatalf("Do(%s): %v", show(r), err)
		}
	}
	if err := mut.Replay(first, l.All()); err != nil {
		t.Fatalf("Replay: %v", err)
	}
	if got, want := state(first), state(d); got != want {
		t.Errorf("replayed: %s, not %s", got, want)
	}
	if !slices.Equal(first.Ids(), []int{1, 2, 3, 5, 7, 8, 9, 10, 12, 13, 15}) || first.Next() != 16 || first.Focus() != 0 {
		t.Errorf("Ids %v, Next %d, Focus %d", first.Ids(), first.Next(), first.Focus())
	}
	if n, _ := first.Node(12); !slices.Equal(n.Kids, []int{13, 10}) {
		t.Errorf("Kids of 12: %v", n.Kids)
	}
	// A second time they don't fit: the first one makes an identity that was given.
	was := state(first)
	if err := mut.Replay(first, l.All()); !is(err, api.ErrArg) || state(first) != was {
		t.Errorf("replayed twice: %v", err)
	}
}

// changes are all that may be asked of a document whose last identity is last, with ones that may not be.
func changes(last int) []api.Rec {
	var l []api.Rec
	for id := 0; id <= last+2; id++ {
		l = append(l, element(id, "p"), element(id, "br"), text(id, "x"), gone(id), attrs(id, api.Attr{Name: "a"}), attrs(id, api.Attr{}), data(id, "y"), data(id, "\n"))
		for parent := 0; parent <= last; parent++ {
			for before := 0; before <= last; before++ {
				l = append(l, put(id, parent, before))
			}
		}
	}
	return l
}

// P7.1 to P7.3: all runs of up to two changes from a small document, with ones that fail among them.
func TestAllSmall(t *testing.T) {
	first := fresh(t, 4)
	for _, r := range []api.Rec{element(2, "p"), put(2, 1, 0)} {
		if err := first.Apply(r); err != nil {
			t.Fatal(err)
		}
	}
	if err := first.SetFocus(2); err != nil {
		t.Fatal(err)
	}
	tried := 0
	// A log can't be cloned: each run is done from its beginning on.
	var grow func(l []api.Rec, last int)
	grow = func(l []api.Rec, last int) {
		if len(l) > 0 {
			p := begin(t, first.Clone())
			for _, r := range l {
				_ = p.do(t, r)
			}
			p.replayed(t)
			if tried++; t.Failed() {
				t.Fatalf("%q", shown(l))
			}
			last = p.d.Next() - 1
		}
		if len(l) == 2 {
			return
		}
		for _, r := range changes(last) {
			grow(append(slices.Clip(l), r), last)
		}
	}
	grow(nil, 2)
	if tried < 3000 {
		t.Errorf("only %d were tried", tried)
	}
}

// someTexts are some that may be texts, or names, and some that may not be.
var someTexts = []string{"", "a", "p", "br", "root", "1a", "A", "a b", "~", "\n", "\x7f", "\xff", strings.Repeat("a", 12), strings.Repeat("a", 13), strings.Repeat("a", 60), strings.Repeat("a", 61)}

// some is a change, of a few numbers, that may be refused.
func some(d *dom.Doc, pick func(n int) int) api.Rec {
	id := func() int { return pick(d.Next()+2) - 1 }
	str := func() string { return someTexts[pick(len(someTexts))] }
	switch pick(12) {
	case 0, 1:
		return element(d.Next(), []string{"p", "b", "br", "P"}[pick(4)])
	case 2:
		return text(d.Next(), str())
	case 3:
		return gone(id())
	case 4:
		return attrs(id(), []api.Attr{{Name: "a"}, {Name: "b", Static: true}, {Name: "a", Value: "1"}}[pick(3):]...)
	case 5:
		return data(id(), str())
	case 6:
		return api.Rec{Op: pick(9) - 1, Id: id(), Parent: id(), Before: id(), Tag: str(), Text: str(), Key: str(), Attrs: []api.Attr{{Name: str()}}}
	case 7, 8:
		return put(id(), id(), id())
	}
	return put(id(), id(), 0)
}

// run does so many changes on a log of a document, and holds P7.1 to P7.3 all along.
func run(t *testing.T, d *dom.Doc, pick func(n int) int, more func() bool) {
	p := begin(t, d)
	for more() && !t.Failed() {
		_ = p.do(t, some(p.d, pick))
		if pick(9) == 0 {
			p.replayed(t)
		}
		if pick(20) == 0 {
			// A new log of the document as it is.
			p = begin(t, p.d)
		}
	}
	p.replayed(t)
}

// P7.1 to P7.3: long runs by a fixed seed.
func TestRuns(t *testing.T) {
	r := rand.New(rand.NewSource(7))
	for n := range 60 {
		left := 150
		d := fresh(t, 1+r.Intn(14))
		if n%3 == 0 {
			d = a(t, 11+r.Intn(8))
		}
		run(t, d, r.Intn, func() bool { left--; return left >= 0 })
		if t.Failed() {
			t.Fatalf("run %d", n)
		}
	}
}

// P7.1 to P7.3: as many changes as fill all the room many times, each time by a chain as deep as there is room.
func TestLong(t *testing.T) {
	d := fresh(t, 200)
	first := d.Clone()
	l := mut.New(d)
	must := func(r api.Rec) {
		if err := l.Do(r); err != nil {
			t.Fatalf("Do(%s): %v", show(r), err)
		}
	}
	for range 10 {
		top := d.Next()
		must(element(top, "p"))
		must(put(top, 1, 0))
		for id := top + 1; d.Free() > 0; id++ {
			must(element(id, "p"))
			must(put(id, id-1, 0))
		}
		if err := l.Do(text(d.Next(), "x")); !is(err, api.ErrFull) {
			t.Errorf("Do, without room: %v", err)
		}
		must(gone(top + 100))
		c := first.Clone()
		if err := mut.Replay(c, l.All()); err != nil {
			t.Errorf("Replay: %v", err)
		}
		if got, want := state(c), state(d); got != want {
			t.Errorf("replayed: %s, not %s", got, want)
		}
		must(gone(top))
	}
	if all := l.All(); len(all) != 10*(2*199+2) {
		t.Errorf("%d changes", len(all))
	}
}

// P1: each call ends, at all numbers and texts.
func TestAnyArguments(t *testing.T) {
	long := strings.Repeat("x", 1<<20)
	many := make([]api.Attr, 1<<16)
	d := a(t, 11)
	l := mut.New(d)
	was := state(d)
	numbers := append([]int{0, 1, 11, 12}, far...)
	for _, op := range append([]int{0, 1, 2, 3, 4, 5, 6}, far...) {
		for _, n := range numbers {
			r := api.Rec{Op: op, Id: n, Parent: n, Before: n, Tag: long, Text: long, Key: long, Attrs: many}
			if err := l.Do(r); err == nil || len(l.All()) != 0 {
				t.Errorf("Do of %d, %d: %v", op, n, err)
			}
			if err := mut.Replay(d, []api.Rec{r, r}); err == nil {
				t.Errorf("Replay of %d, %d: %v", op, n, err)
			}
		}
	}
	if got := state(d); got != was {
		t.Errorf("refused, they changed the document: %s, not %s", got, was)
	}
	// What a change's kind doesn't name may be of any length.
	if err := l.Do(api.Rec{Op: api.Put, Id: 8, Parent: 1, Tag: long, Text: long, Key: long, Attrs: many}); err != nil {
		t.Errorf("Do: %v", err)
	}
	if all := l.All(); len(all) != 1 || all[0].Tag != long || all[0].Text != long || all[0].Key != long || len(all[0].Attrs) != len(many) {
		t.Errorf("All: %d changes", len(all))
	}
}

// P1: logs of documents that differ share nothing: each may be used by a goroutine of its own (go test -race sees it).
func TestApartAtOnce(t *testing.T) {
	first := a(t, 200)
	ends := make(chan string)
	for range 4 {
		d := first.Clone()
		c := first.Clone()
		go func() {
			l := mut.New(d)
			for id := 12; id <= 60; id++ {
				_ = l.Do(element(id, "p"))
				_ = l.Do(put(id, 2, 3))
				_ = l.Do(attrs(2, api.Attr{Name: "a", Value: fmt.Sprint(id)}))
			}
			if err := mut.Replay(c, l.All()); err != nil {
				ends <- err.Error()
				return
			}
			if state(c) != state(d) {
				ends <- "replayed, it differs"
				return
			}
			ends <- fmt.Sprint(len(l.All()))
		}()
	}
	for range 4 {
		if got := <-ends; got != "147" {
			t.Error(got)
		}
	}
}

// P1: a goal for go test -fuzz; its seeds run in every test. The first byte is the room, the others pick what is done.
func FuzzMut(f *testing.F) {
	for _, s := range []string{
		"", "\x00", "\x01", "\xc8\x00", "\xc9", "\x05\x00\x00\x01\x01\x09\x03\x02\x00\x00\x0b\x03\x02", "\x08" + strings.Repeat("\x00\x00\x0b\x03\x02\x01\x00", 8),
		"\x20" + strings.Repeat("\x00\x00\x04\x02\x00\x03\x02\x06\x01", 9),
	} {
		f.Add([]byte(s))
	}
	f.Fuzz(func(t *testing.T, in []byte) {
		if len(in) == 0 || len(in) > 300 {
			return
		}
		d, err := dom.New(int(in[0]))
		if err != nil {
			if err := mut.Replay(d, nil); !is(err, api.ErrArg) {
				t.Errorf("Replay(nil): %v", err)
			}
			return
		}
		in = in[1:]
		pick := func(n int) int {
			if len(in) == 0 {
				return 0
			}
			x := int(in[0]) % n
			in = in[1:]
			return x
		}
		run(t, d, pick, func() bool { return len(in) > 0 })
	})
}
