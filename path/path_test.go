package path_test

import (
	"fmt"
	"math"
	"math/rand"
	"slices"
	"strings"
	"testing"

	"placket/api"
	"placket/dom"
	"placket/path"
)

// far are identities, or places, that no small document has, the smallest and the greatest numbers among them.
var far = []int{-1, -2, -7, -200, 200, 201, 1 << 20, -1 << 20, math.MinInt32, math.MaxInt32, math.MinInt, math.MinInt + 1, math.MaxInt - 1, math.MaxInt, 1 << 32, 1<<32 + 1, 1<<32 + 7, -1<<32 + 7}

func fresh(t *testing.T, room int) *dom.Doc {
	t.Helper()
	d, err := dom.New(room)
	if d == nil || err != nil {
		t.Fatalf("New(%d): %v, %v", room, d, err)
	}
	return d
}

func do(t *testing.T, d *dom.Doc, l ...api.Rec) {
	t.Helper()
	for _, r := range l {
		if err := d.Apply(r); err != nil {
			t.Fatalf("Apply(%#v): %v", r, err)
		}
	}
}

// Changes.
func element(id int, tag string) api.Rec { return api.Rec{Op: api.Make, Id: id, Tag: tag} }
func text(id int, s string) api.Rec      { return api.Rec{Op: api.Make, Id: id, Text: s} }
func put(id, parent, before int) api.Rec {
	return api.Rec{Op: api.Put, Id: id, Parent: parent, Before: before}
}
func gone(id int) api.Rec { return api.Rec{Op: api.Gone, Id: id} }

// a is a document that many tests look at; the order of children is not that of their identities.
//
//	1 root
//	  7 p
//	    9 text
//	    4 p
//	      6 text
//	      10 b
//	        3 text
//	    8 p
//	  5 br
//	  2 div
//	    12 text
//	  11 text
//	13 p, nowhere
//	  16 b
//	    15 text
//	  14 text
//	17 text, nowhere
//
// 18 and 19, which was below it, are gone; 20 wasn't there yet.
func a(t *testing.T) *dom.Doc {
	t.Helper()
	d := fresh(t, 25)
	do(t, d,
		element(2, "div"), text(3, "y"), element(4, "p"), element(5, "br"), text(6, ""), element(7, "p"), element(8, "p"),
		text(9, "x"), element(10, "b"), text(11, "w"), text(12, "z"), element(13, "p"), text(14, "u"), text(15, "v"),
		element(16, "b"), text(17, "t"), element(18, "p"), text(19, "s"),
		put(2, 1, 0), put(11, 1, 0), put(7, 1, 2), put(5, 1, 2), put(8, 7, 0), put(4, 7, 8), put(9, 7, 4), put(10, 4, 0), put(6, 4, 10),
		put(3, 10, 0), put(12, 2, 0), put(14, 13, 0), put(16, 13, 14), put(15, 16, 0), put(18, 1, 7), put(19, 18, 0), gone(18),
	)
	if err := d.SetFocus(10); err != nil {
		t.Fatal(err)
	}
	return d
}

// ups are the ways up in a, by hand.
var ups = map[int][]int{
	1: {1}, 2: {2, 1}, 3: {3, 10, 4, 7, 1}, 4: {4, 7, 1}, 5: {5, 1}, 6: {6, 4, 7, 1}, 7: {7, 1}, 8: {8, 7, 1}, 9: {9, 7, 1},
	10: {10, 4, 7, 1}, 11: {11, 1}, 12: {12, 2, 1}, 13: {13}, 14: {14, 13}, 15: {15, 16, 13}, 16: {16, 13}, 17: {17},
}

// alls are all below each node of a, by hand.
var alls = map[int][]int{
	1: {1, 7, 9, 4, 6, 10, 3, 8, 5, 2, 12, 11}, 2: {2, 12}, 3: {3}, 4: {4, 6, 10, 3}, 5: {5}, 6: {6}, 7: {7, 9, 4, 6, 10, 3, 8}, 8: {8},
	9: {9}, 10: {10, 3}, 11: {11}, 12: {12}, 13: {13, 16, 15, 14}, 14: {14}, 15: {15}, 16: {16, 15}, 17: {17},
}

// identities are those of a, those that aren't there, and those that no document has.
func identities() []int {
	l := slices.Clone(far)
	for id := 0; id <= 21; id++ {
		l = append(l, id)
	}
	return l
}

// all tells all that a document tells.
func all(d *dom.Doc) string {
	s := fmt.Sprint(d.Ids(), d.Next(), d.Free(), d.Focus())
	for _, id := range d.Ids() {
		n, ok := d.Node(id)
		s += fmt.Sprintf("\n%#v %v", n, ok)
	}
	return s
}

// P6.1: Up, of the root, of children of children, of what is nowhere, below that, gone, and of what isn't there.
func TestUp(t *testing.T) {
	d := a(t)
	was := all(d)
	for _, id := range identities() {
		if got := path.Up(d, id); !slices.Equal(got, ups[id]) {
			t.Errorf("Up(%d): %v, not %v", id, got, ups[id])
		}
	}
	if got := all(d); got != was {
		t.Errorf("Up changed the document: %s, not %s", got, was)
	}
}

// P6.1: Inside, of each in each, there or not.
func TestInside(t *testing.T) {
	d := a(t)
	was := all(d)
	for _, id := range identities() {
		for _, of := range identities() {
			if got, want := path.Inside(d, id, of), slices.Contains(ups[id], of); got != want {
				t.Errorf("Inside(%d, %d): %v, not %v", id, of, got, want)
			}
		}
	}
	if got := all(d); got != was {
		t.Errorf("Inside changed the document: %s, not %s", got, was)
	}
}

// P6.1: Inside, by hand.
func TestInsideByHand(t *testing.T) {
	d := a(t)
	for _, c := range []struct {
		what   string
		id, of int
		want   bool
	}{
		{"the root, in itself", 1, 1, true}, {"a node, in itself", 4, 4, true}, {"a text, in itself", 3, 3, true},
		{"one that is nowhere, in itself", 13, 13, true}, {"in its parent", 4, 7, true}, {"in the root", 7, 1, true},
		{"in what is above its parent", 3, 4, true}, {"a text, in the root", 3, 1, true}, {"nowhere, in its parent", 15, 16, true},
		{"nowhere, in what is above that", 15, 13, true},
		{"in what is beside it", 4, 9, false}, {"in what is behind it", 9, 8, false}, {"in what is below its brother", 8, 10, false},
		{"in what is below it", 7, 4, false}, {"in a text below it", 10, 3, false}, {"the root, in a child", 1, 7, false},
		{"nowhere, in the root", 13, 1, false}, {"below what is nowhere, in the root", 15, 1, false},
		{"the root, in one that is nowhere", 1, 13, false}, {"in another one that is nowhere", 17, 13, false},
		{"of one that isn't there", 20, 1, false}, {"in one that isn't there", 4, 20, false}, {"both of them", 20, 20, false},
		{"of one that is gone", 18, 1, false}, {"in one that is gone", 4, 18, false}, {"gone, in its parent", 19, 18, false},
		{"gone, in itself", 18, 18, false}, {"of 0", 0, 1, false}, {"the root, in 0", 1, 0, false}, {"nowhere, in 0", 13, 0, false},
		{"0, in 0", 0, 0, false}, {"less, in itself", -1, -1, false}, {"in less", 4, -1, false},
	} {
		if got := path.Inside(d, c.id, c.of); got != c.want {
			t.Errorf("%s: Inside(%d, %d): %v, not %v", c.what, c.id, c.of, got, c.want)
		}
	}
}

// P6.1: All, of the root, of texts, of Kids that have Kids, of what is nowhere, and of what isn't there.
func TestAll(t *testing.T) {
	d := a(t)
	was := all(d)
	for _, id := range identities() {
		if got := path.All(d, id); !slices.Equal(got, alls[id]) {
			t.Errorf("All(%d): %v, not %v", id, got, alls[id])
		}
	}
	if got := all(d); got != was {
		t.Errorf("All changed the document: %s, not %s", got, was)
	}
}

// P6.1: At, by hand: 0 is what isn't there.
func TestAt(t *testing.T) {
	d := a(t)
	was := all(d)
	for _, c := range []struct {
		places []int
		want   int
	}{
		{nil, 1}, {[]int{}, 1},
		{[]int{0}, 7}, {[]int{1}, 5}, {[]int{2}, 2}, {[]int{3}, 11}, {[]int{4}, 0}, {[]int{5}, 0}, {[]int{-1}, 0},
		{[]int{0, 0}, 9}, {[]int{0, 1}, 4}, {[]int{0, 2}, 8}, {[]int{0, 3}, 0}, {[]int{0, -1}, 0},
		{[]int{0, 1, 0}, 6}, {[]int{0, 1, 1}, 10}, {[]int{0, 1, 2}, 0}, {[]int{0, 1, -1}, 0},
		{[]int{0, 1, 1, 0}, 3}, {[]int{0, 1, 1, 1}, 0}, {[]int{2, 0}, 12}, {[]int{2, 1}, 0},
		{[]int{0, 0, 0}, 0}, {[]int{3, 0}, 0}, {[]int{0, 1, 1, 0, 0}, 0}, {[]int{3, -1}, 0}, // below a text
		{[]int{1, 0}, 0}, {[]int{0, 2, 0}, 0}, {[]int{1, -1}, 0}, // below a void one, and below one without Kids
		{[]int{-1, 0}, 0}, {[]int{4, 0}, 0}, {[]int{4, -1}, 0}, {[]int{-1, 1, 1}, 0}, {[]int{0, 3, 0}, 0}, {[]int{0, -1, 0}, 0},
	} {
		checkAt(t, d, c.places, c.want)
	}
	for _, place := range far {
		for _, places := range [][]int{{place}, {0, place}, {place, 0}, {0, 1, place}, {0, place, 1}, {0, 1, 1, 0, place}, {3, place}} {
			checkAt(t, d, places, 0)
		}
	}
	if got := all(d); got != was {
		t.Errorf("At changed the document: %s, not %s", got, was)
	}
}

// checkAt holds what is at some places against an identity; 0 is none.
func checkAt(t *testing.T, d *dom.Doc, places []int, want int) {
	t.Helper()
	if got, ok := path.At(d, places); got != want || ok != (want != 0) {
		t.Errorf("At(%v): %d, %v, not %d, %v", places, got, ok, want, want != 0)
	}
}

// P6.1: the chapter's example, in a document of the root alone, too.
func TestExample(t *testing.T) {
	d := fresh(t, 1)
	for _, places := range [][]int{nil, {}} {
		checkAt(t, d, places, 1)
	}
	checkAt(t, d, []int{0}, 0)
	checkAt(t, d, []int{-1}, 0)
	if up, all := path.Up(d, 1), path.All(d, 1); !slices.Equal(up, []int{1}) || !slices.Equal(all, []int{1}) || !path.Inside(d, 1, 1) {
		t.Errorf("Up(1): %v, All(1): %v, Inside(1, 1): %v", up, all, path.Inside(d, 1, 1))
	}
}

// P6.1, P1: of a nil document there is nothing.
func TestNilDocument(t *testing.T) {
	for _, id := range identities() {
		if l := path.Up(nil, id); len(l) != 0 {
			t.Errorf("Up(nil, %d): %v", id, l)
		}
		if l := path.All(nil, id); len(l) != 0 {
			t.Errorf("All(nil, %d): %v", id, l)
		}
		for _, of := range identities() {
			if path.Inside(nil, id, of) {
				t.Errorf("Inside(nil, %d, %d): true", id, of)
			}
		}
		checkAt(t, nil, []int{id}, 0)
		checkAt(t, nil, []int{id, 0}, 0)
	}
	checkAt(t, nil, nil, 0)
	checkAt(t, nil, []int{}, 0)
	checkAt(t, nil, []int{0, 1, 1, 0}, 0)
}

// P6.1: behind changes, what is told is of the document as it is then, and the one that was cloned is told as it was.
func TestChanged(t *testing.T) {
	old := a(t)
	d := old.Clone()
	is := func(what string, got []int, want ...int) {
		t.Helper()
		if !slices.Equal(got, want) {
			t.Errorf("%s: %v, not %v", what, got, want)
		}
	}
	do(t, d, put(4, 13, 16))
	is("moved, Up(3)", path.Up(d, 3), 3, 10, 4, 13)
	is("moved, All(13)", path.All(d, 13), 13, 4, 6, 10, 3, 16, 15, 14)
	is("moved, All(7)", path.All(d, 7), 7, 9, 8)
	if path.Inside(d, 3, 1) || path.Inside(d, 4, 7) || !path.Inside(d, 3, 13) {
		t.Error("moved, it is inside what it was inside of")
	}
	checkAt(t, d, []int{0, 1}, 8)
	checkAt(t, d, []int{0, 1, 0}, 0)
	do(t, d, put(13, 2, 12))
	is("put, Up(3)", path.Up(d, 3), 3, 10, 4, 13, 2, 1)
	is("put, All(2)", path.All(d, 2), 2, 13, 4, 6, 10, 3, 16, 15, 14, 12)
	checkAt(t, d, []int{2, 0, 0, 1, 0}, 3)
	checkAt(t, d, []int{2, 1}, 12)
	do(t, d, put(11, 1, 7), gone(10))
	is("gone, Up(3)", path.Up(d, 3))
	is("gone, All(10)", path.All(d, 10))
	is("gone, All(1)", path.All(d, 1), 1, 11, 7, 9, 8, 5, 2, 13, 4, 6, 16, 15, 14, 12)
	checkAt(t, d, []int{3, 0, 0, 1}, 0)
	checkAt(t, d, []int{0}, 11)
	is("cloned, All(1)", path.All(old, 1), alls[1]...)
	is("cloned, Up(3)", path.Up(old, 3), ups[3]...)
}

// address is where a node is, told another way: the places down to it, behind the node that is above all of them.
func address(d *dom.Doc, id int) []int {
	n, _ := d.Node(id)
	if n.Parent == 0 {
		return []int{id}
	}
	p, _ := d.Node(n.Parent)
	return append(address(d, n.Parent), slices.Index(p.Kids, id))
}

// agree holds all four calls on a document against the chapter's words, told by addresses: a node is inside those whose
// addresses begin its own; All are those that are inside, by rising addresses; At is the one of an address. It holds P6.2, too.
func agree(t *testing.T, d *dom.Doc, tried [][]int) {
	t.Helper()
	was := all(d)
	ids := d.Ids()
	at := map[int][]int{}
	for _, id := range ids {
		at[id] = address(d, id)
	}
	for _, id := range append([]int{-1, 0, d.Next(), d.Next() + 1}, ids...) {
		agreeUp(t, d, id, at)
		agreeAll(t, d, id, at)
		if len(at[id]) > 0 && at[id][0] == 1 {
			places := at[id][1:]
			tried = append(tried, places, slices.Concat(places, []int{0}), slices.Concat(places, []int{-1}), slices.Concat(places, []int{1, 0}))
		}
	}
	for _, places := range tried {
		want := 0
		for id, l := range at {
			if slices.Equal(l, slices.Concat([]int{1}, places)) {
				want = id
			}
		}
		checkAt(t, d, places, want)
		if got, ok := path.At(d, places); ok && !path.Inside(d, got, 1) {
			t.Errorf("At(%v): %d isn't inside the root", places, got)
		}
	}
	if got := all(d); got != was {
		t.Errorf("the document was changed: %s, not %s", got, was)
	}
}

// inside tells whether one address begins another one.
func inside(at, of []int) bool {
	return len(of) > 0 && len(at) >= len(of) && slices.Equal(at[:len(of)], of)
}

func agreeUp(t *testing.T, d *dom.Doc, id int, at map[int][]int) {
	t.Helper()
	var want []int
	for of, l := range at {
		if inside(at[id], l) {
			want = append(want, of)
		}
		if got := path.Inside(d, id, of); got != inside(at[id], l) {
			t.Errorf("Inside(%d, %d): %v", id, of, got)
		}
	}
	slices.SortFunc(want, func(x, y int) int { return len(at[y]) - len(at[x]) })
	if got := path.Up(d, id); !slices.Equal(got, want) {
		t.Errorf("Up(%d): %v, not %v", id, got, want)
	}
	for _, of := range []int{-1, 0, d.Next()} {
		if path.Inside(d, id, of) {
			t.Errorf("Inside(%d, %d): true", id, of)
		}
	}
}

func agreeAll(t *testing.T, d *dom.Doc, id int, at map[int][]int) {
	t.Helper()
	var want []int
	for of, l := range at {
		if inside(l, at[id]) {
			want = append(want, of)
		}
	}
	slices.SortFunc(want, func(x, y int) int { return slices.Compare(at[x], at[y]) })
	got := path.All(d, id)
	if !slices.Equal(got, want) {
		t.Errorf("All(%d): %v, not %v", id, got, want)
	}
	seen := map[int]int{}
	for _, of := range got {
		if seen[of]++; seen[of] > 1 {
			t.Errorf("All(%d): %v: %d is there twice", id, got, of)
		}
		if !path.Inside(d, of, got[0]) {
			t.Errorf("All(%d): %v: %d isn't inside the first one", id, got, of)
		}
	}
}

// lists are all lists of places from -1 to 2, of at most n.
func lists(n int) [][]int {
	l := [][]int{nil}
	for from := 0; n > 0; n-- {
		to := len(l)
		for ; from < to; from++ {
			for place := -1; place <= 2; place++ {
				l = append(l, slices.Concat(l[from], []int{place}))
			}
		}
	}
	return l
}

// P6.1, P6.2: on every shape that up to five nodes beside the root may have, in the tree or nowhere, in every order.
func TestAllSmall(t *testing.T) {
	tried := lists(3)
	shapes := 0
	var grow func(d *dom.Doc, left int)
	grow = func(d *dom.Doc, left int) {
		agree(t, d, tried)
		if shapes++; t.Failed() {
			t.Fatal(all(d))
		}
		if left == 0 {
			return
		}
		id := d.Next()
		for _, parent := range append(d.Ids(), 0) {
			p, _ := d.Node(parent)
			for _, before := range append(p.Kids, 0) {
				c := d.Clone()
				do(t, c, element(id, "p"))
				if parent != 0 {
					do(t, c, put(id, parent, before))
				}
				grow(c, left-1)
			}
		}
	}
	grow(fresh(t, 6), 5)
	if want := 1 + 2 + 7 + 37 + 266 + 2431; shapes != want {
		t.Errorf("%d shapes, not %d", shapes, want)
	}
}

// some does a change on a document that may be refused: nothing is changed then.
func some(d *dom.Doc, pick func(n int) int) {
	id := func() int { return pick(d.Next()+2) - 1 }
	switch pick(8) {
	case 0, 1:
		_ = d.Apply(element(d.Next(), []string{"p", "b", "br", "input"}[pick(4)]))
	case 2:
		_ = d.Apply(text(d.Next(), "x"))
	case 3:
		if pick(4) == 0 {
			_ = d.Apply(gone(id()))
		}
	case 4:
		_ = d.Apply(put(id(), id(), id()))
	default:
		_ = d.Apply(put(id(), id(), 0))
	}
}

// P6.1, P6.2: on documents that long runs of changes make, by a fixed seed.
func TestRuns(t *testing.T) {
	r := rand.New(rand.NewSource(6))
	tried := lists(2)
	for run := range 40 {
		d := fresh(t, 2+r.Intn(30))
		for i := range 200 {
			if some(d, r.Intn); i%5 == 0 {
				agree(t, d, tried)
			}
		}
		if t.Failed() {
			t.Fatalf("run %d", run)
		}
	}
}

// count are n identities, from first on, by steps.
func count(first, step, n int) []int {
	var l []int
	for i := range n {
		l = append(l, first+i*step)
	}
	return l
}

// P6.1, P1: as deep, and as wide, as there is room; places of any number.
func TestGreat(t *testing.T) {
	deep, wide := fresh(t, 200), fresh(t, 200)
	for id := 2; id <= 200; id++ {
		do(t, deep, element(id, "p"), put(id, id-1, 0))
		do(t, wide, element(id, "p"), put(id, 1, 0))
	}
	is := func(what string, got, want []int) {
		t.Helper()
		if !slices.Equal(got, want) {
			t.Errorf("%s: %v, not %v", what, got, want)
		}
	}
	is("deep, Up(200)", path.Up(deep, 200), count(200, -1, 200))
	is("deep, All(1)", path.All(deep, 1), count(1, 1, 200))
	is("deep, All(150)", path.All(deep, 150), count(150, 1, 51))
	if !path.Inside(deep, 200, 1) || !path.Inside(deep, 200, 199) || path.Inside(deep, 1, 200) || path.Inside(deep, 150, 151) {
		t.Error("deep, Inside")
	}
	is("wide, Up(200)", path.Up(wide, 200), []int{200, 1})
	is("wide, All(1)", path.All(wide, 1), count(1, 1, 200))
	for n := range 200 {
		checkAt(t, deep, make([]int, n), n+1)
		checkAt(t, wide, []int{n}, []int{n + 2, 0}[n/199])
		checkAt(t, wide, []int{n, 0}, 0)
	}
	for _, n := range []int{200, 201, 1 << 16, 1 << 20} {
		checkAt(t, deep, make([]int, n), 0)
		checkAt(t, wide, make([]int, n), 0)
		checkAt(t, nil, make([]int, n), 0)
	}
}

// spoil overwrites all that a list has, and what lies behind its end.
func spoil(l []int) {
	l = l[:cap(l)]
	for i := range l {
		l[i] = 99
	}
}

// P6.1, R2: what is told is new memory: spoilt, it changes neither the document nor what is told another time.
func TestToldIsNew(t *testing.T) {
	d := a(t)
	was := all(d)
	for id := 1; id <= 17; id++ {
		up, all1 := path.Up(d, id), path.All(d, id)
		upAgain, allAgain := path.Up(d, id), path.All(d, id)
		spoil(up)
		spoil(all1)
		if !slices.Equal(upAgain, ups[id]) || !slices.Equal(allAgain, alls[id]) {
			t.Errorf("two told of %d share memory: %v, %v", id, upAgain, allAgain)
		}
		if up, all := path.Up(d, id), path.All(d, id); !slices.Equal(up, ups[id]) || !slices.Equal(all, alls[id]) {
			t.Errorf("what was told of %d was kept: %v, %v", id, up, all)
		}
		_ = append(upAgain, 77)
		_ = append(allAgain, 77)
		if got := all(d); got != was {
			t.Fatalf("what was told of %d was the document's: %s, not %s", id, got, was)
		}
	}
	// Changed by later changes, what was told stays.
	up, all := path.Up(d, 3), path.All(d, 1)
	do(t, d, put(4, 13, 0), put(11, 1, 7), gone(2), put(13, 8, 0), gone(10))
	if !slices.Equal(up, ups[3]) || !slices.Equal(all, alls[1]) {
		t.Errorf("changes changed what was told: %v, %v", up, all)
	}
}

// P6.1, R2: the places that are handed in are neither changed nor kept.
func TestHandedIn(t *testing.T) {
	d := a(t)
	was := all(d)
	for _, end := range []int{0, 1, 2, 3, 4, 5, 6} {
		list := []int{0, 1, 1, 0, 0, -1, 7}
		want := []int{1, 7, 4, 10, 3, 0, 0}[end]
		checkAt(t, d, list[:end], want)
		if !slices.Equal(list, []int{0, 1, 1, 0, 0, -1, 7}) {
			t.Errorf("At changed the places: %v", list)
		}
		spoil(list)
		checkAt(t, d, []int{0, 1, 1, 0, 0, -1, 7}[:end], want)
		checkAt(t, d, list, 0)
		if got := all(d); got != was {
			t.Errorf("the places are the document's: %s, not %s", got, was)
		}
	}
}

// P1: nothing is kept: documents that differ may be asked by a goroutine each (go test -race sees it).
func TestApartAtOnce(t *testing.T) {
	d := a(t)
	ends := make(chan string)
	for range 4 {
		c := d.Clone()
		go func() {
			s := ""
			for range 50 {
				id, ok := path.At(c, []int{0, 1, 1, 0})
				s = fmt.Sprint(path.Up(c, 3), path.All(c, 1), path.Inside(c, 3, 7), id, ok)
			}
			ends <- s
		}()
	}
	want := fmt.Sprint(ups[3], alls[1], true, 3, true)
	for range 4 {
		if got := <-ends; got != want {
			t.Errorf("%s, not %s", got, want)
		}
	}
}

// P1: a goal for go test -fuzz; its seeds run in every test. The first byte is the room, the next ones some places, up to a
// byte of 255, the others pick changes.
func FuzzPath(f *testing.F) {
	for _, s := range []string{
		"", "\x00", "\x01\xff", "\x05\x01\x01\xff\x00\x00\x05\x03\x02\x00\x00\x05\x04\x03", "\xc8\x00\xff" + strings.Repeat("\x00\x00\x05\x03\x02", 9),
		"\x14\x02\x00\x01\xff" + strings.Repeat("\x00\x00\x02\x05\x03\x02\x04\x04\x03\x05", 7), "\x63\x80\x00",
	} {
		f.Add([]byte(s))
	}
	f.Fuzz(func(t *testing.T, in []byte) {
		if len(in) == 0 || len(in) > 300 {
			return
		}
		d, err := dom.New(int(in[0]))
		if err != nil {
			checkAt(t, d, nil, 0)
			return
		}
		var places []int
		for in = in[1:]; len(in) > 0 && in[0] != 255; in = in[1:] {
			places = append(places, int(in[0])-1)
		}
		pick := func(n int) int {
			if len(in) == 0 {
				return 0
			}
			x := int(in[0]) % n
			in = in[1:]
			return x
		}
		for pick(1); len(in) > 0; {
			some(d, pick)
		}
		agree(t, d, [][]int{places})
	})
}
