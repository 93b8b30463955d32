package patch_test

import (
	"bytes"
	"fmt"
	"math"
	"math/rand"
	"slices"
	"strconv"
	"strings"
	"sync"
	"testing"

	"placket/api"
	"placket/bound"
	"placket/code"
	"placket/denote"
	"placket/dom"
	"placket/match"
	"placket/mut"
	"placket/patch"
	"placket/path"
	"placket/tree"
	"placket/valid"
	"placket/walk"
	"placket/wish"
)

// The ops by their numbers, as the document tells them.
const (
	open     = 1
	closes   = 2
	void     = 3
	text     = 4
	dynamic  = 5
	static   = 6
	skip     = 7
	skipNode = 8
)

func isVoid(tag string) bool { return slices.Contains([]string{"br", "hr", "img", "input"}, tag) }

// program are the instructions that words tell, whether they may be a program or not: p, or p#k, an Open, / a Close; br, or br#k, a Void; 'x a Text; a=1 a Dynamic, a:1 a Static; * a Skip; _ a SkipNode.
func program(s string) []api.Ins {
	var l []api.Ins
	for _, word := range strings.Fields(s) {
		l = append(l, instruction(word))
	}
	return l
}

func instruction(word string) api.Ins {
	if op, ok := map[string]int{"/": closes, "*": skip, "_": skipNode}[word]; ok {
		return api.Ins{Op: op}
	}
	if word[0] == '\'' {
		return api.Ins{Op: text, A: word[1:]}
	}
	if a, b, ok := strings.Cut(word, "="); ok {
		return api.Ins{Op: dynamic, A: a, B: b}
	}
	if a, b, ok := strings.Cut(word, ":"); ok {
		return api.Ins{Op: static, A: a, B: b}
	}
	tag, key, _ := strings.Cut(word, "#")
	if isVoid(tag) {
		return api.Ins{Op: void, A: tag, B: key}
	}
	return api.Ins{Op: open, A: tag, B: key}
}

// inBytes are instructions as bytes, whether they may be or not.
func inBytes(l []api.Ins) []byte {
	var b []byte
	put := func(s string) { b = append(append(b, byte(len(s))), s...) }
	for _, i := range l {
		b = append(b, byte(i.Op))
		switch i.Op {
		case open, void, dynamic, static:
			put(i.A)
			put(i.B)
		case text:
			put(i.A)
		}
	}
	return b
}

// prog are the bytes of a program that words tell.
func prog(s string) []byte { return inBytes(program(s)) }

// trees are just as words tell, attributes in their order; no program is asked: a key may be there twice.
func trees(s string) []api.Tree {
	l, left := grown(program(s))
	if len(left) > 0 {
		panic(s)
	}
	return l
}

// grown are the trees ahead of the Close of what is open, and what stands behind that.
func grown(l []api.Ins) ([]api.Tree, []api.Ins) {
	var told []api.Tree
	for len(l) > 0 {
		i := l[0]
		l = l[1:]
		switch i.Op {
		case closes:
			return told, l
		case text:
			told = append(told, api.Tree{Text: i.A})
			continue
		}
		x := api.Tree{Tag: i.A, Key: i.B}
		for len(l) > 0 && (l[0].Op == dynamic || l[0].Op == static) {
			x.Attrs, l = append(x.Attrs, api.Attr{Name: l[0].A, Value: l[0].B, Static: l[0].Op == static}), l[1:]
		}
		if i.Op == open {
			x.Kids, l = grown(l)
		}
		told = append(told, x)
	}
	return told, nil
}

// below makes a document of some trees below the root, whose identities are 2, 3 and so on, each ahead of what is below it; each one's Note is ten times its identity.
func below(t *testing.T, room int, l []api.Tree) *dom.Doc {
	t.Helper()
	d, err := dom.New(room)
	if err != nil {
		t.Fatal(err)
	}
	log := mut.New(d)
	for _, x := range l {
		if _, err := tree.Build(log, d, 1, 0, x); err != nil {
			t.Fatal(x, err)
		}
	}
	for _, id := range d.Ids() {
		if err := d.Note(id, int64(10*id)); err != nil {
			t.Fatal(err)
		}
	}
	return d
}

// doc is such a document, of words, with room for so many more, and the focus at a node.
func doc(t *testing.T, s string, free, focus int) *dom.Doc {
	t.Helper()
	l := trees(s)
	d := below(t, tree.Count(api.Tree{Kids: l})+free, l)
	if err := d.SetFocus(focus); err != nil {
		t.Fatal(err)
	}
	return d
}

func kids(d *dom.Doc, id int) []int {
	n, _ := d.Node(id)
	return n.Kids
}

// apply does changes that are told by words, with ; between them: make 5 p#k, make 5 'x, put 5 1 0, attrs 5 a=1 b:2, data 5 'x, gone 5.
func apply(t *testing.T, d *dom.Doc, s string) {
	t.Helper()
	if err := mut.Replay(d, recs(s)); err != nil {
		t.Fatal(s, err)
	}
}

func recs(s string) []api.Rec {
	var l []api.Rec
	for _, told := range strings.Split(s, ";") {
		f := strings.Fields(told)
		if len(f) == 0 {
			continue
		}
		r := api.Rec{Op: 1 + slices.Index([]string{"make", "put", "gone", "attrs", "data"}, f[0]), Id: number(f[1])}
		switch f[0] {
		case "put":
			r.Parent, r.Before = number(f[2]), number(f[3])
		case "attrs":
			for _, i := range program(strings.Join(f[2:], " ")) {
				r.Attrs = append(r.Attrs, api.Attr{Name: i.A, Value: i.B, Static: i.Op == static})
			}
		case "make", "data":
			if i := instruction(f[2]); i.Op == text {
				r.Text = i.A
			} else {
				r.Tag, r.Key = i.A, i.B
			}
		}
		l = append(l, r)
	}
	return l
}

func number(s string) int {
	n, err := strconv.Atoi(s)
	if err != nil {
		panic(s)
	}
	return n
}

// telling tells changes with all their fields.
func telling(l []api.Rec) string {
	var s strings.Builder
	for _, r := range l {
		fmt.Fprintf(&s, "\n%d %d %d %d %q %q %q", r.Op, r.Id, r.Parent, r.Before, r.Tag, r.Text, r.Key)
		for _, a := range r.Attrs {
			fmt.Fprintf(&s, " %q=%q %v", a.Name, a.Value, a.Static)
		}
	}
	return s.String()
}

// all tells all that a document tells.
func all(d *dom.Doc) string {
	var s strings.Builder
	fmt.Fprint(&s, d.Ids(), d.Next(), d.Free(), d.Focus())
	for _, id := range d.Ids() {
		n, _ := d.Node(id)
		s.WriteString("\n" + shown(n))
	}
	return s.String()
}

func shown(n api.Node) string {
	return fmt.Sprintf("%d %d %q %q %q %v %v %d", n.Id, n.Parent, n.Tag, n.Text, n.Key, n.Attrs, n.Kids, n.Note)
}

func short(s string) string { return s[:min(len(s), 1500)] }

// is holds an error against another one: both none, or the same number.
func is(got, want error) bool {
	if got == nil || want == nil {
		return got == nil && want == nil
	}
	return got == want
}

// kind is one of the two patches.
type kind struct {
	name  string
	outer bool
	do    func(l *mut.Log, d *dom.Doc, id int, b []byte) error
}

func kinds() []kind { return []kind{{"Inner", false, patch.Inner}, {"Outer", true, patch.Outer}} }

func named(name string) kind {
	return kinds()[slices.Index([]string{"inner", "outer"}, name)]
}

// run is a patch, against an error and the changes by hand; the document must be as these make it.
func run(t *testing.T, k kind, d *dom.Doc, id int, b []byte, err error, told []api.Rec) {
	t.Helper()
	what := fmt.Sprintf("%s(%d, %q), focus %d", k.name, id, short(string(b)), d.Focus())
	byHand, was, wasBytes := d.Clone(), all(d), bytes.Clone(b)
	if err := mut.Replay(byHand, told); err != nil {
		t.Fatalf("%s: %v can't be done: %v", what, told, err)
	}
	log := mut.New(d)
	if got := k.do(log, d, id, b); !is(got, err) {
		t.Errorf("%s: %v, not %v", what, got, err)
	}
	if got, told := telling(log.All()), telling(told); got != told {
		t.Errorf("%s of %s:%s\nnot%s", what, was, got, told)
	}
	if got, told := all(d), all(byHand); got != told {
		t.Errorf("%s: %s, not %s", what, got, told)
	}
	if !bytes.Equal(b, wasBytes) {
		t.Errorf("%s: what was handed in is changed: %q", what, b)
	}
}

// P20.1: the chapter's example.
func TestExample(t *testing.T) {
	for _, s := range []string{"", "root /", "root 'x /", "_", "*", "'x", "'x 'y", "p / p /"} {
		run(t, named("outer"), doc(t, "'a", 9, 2), 1, prog(s), api.ErrRoot, nil)
	}
}

// P20.1: what is done, by hand: the old ones, the focus, which patch of which node, by what, and the changes.
func TestByHand(t *testing.T) {
	for _, c := range []struct {
		old   string
		focus int
		kind  string
		id    int
		want  string
		told  string
	}{
		// All Kids of the node, and the node as it is.
		{"", 0, "inner", 1, "", ""},
		{"", 0, "inner", 1, "'x", "make 2 'x; put 2 1 0"},
		{"", 0, "inner", 1, "'x br p#k a=1 b:2 'y / 'z", "make 2 'x; put 2 1 0; make 3 br; put 3 1 0; make 4 p#k; put 4 1 0; attrs 4 b:2 a=1; make 5 'y; put 5 4 0; make 6 'z; put 6 1 0"},
		{"'a p 'b / br", 0, "inner", 1, "", "gone 2; gone 3; gone 5"},
		{"'a p 'b / br", 4, "inner", 1, "'c *", "data 2 'c"},
		{"'a p a=1 'b 'c / br", 0, "inner", 3, "'d", "data 4 'd; gone 5"},
		{"'a p a=1 'b 'c / br", 0, "inner", 3, "", "gone 4; gone 5"},
		{"'a p a=1 / br", 0, "inner", 3, "q 'x / 'y", "make 5 q; put 5 3 0; make 6 'x; put 6 5 0; make 7 'y; put 7 3 0"},
		{"'a p#k 'b q#l 'c / / br", 0, "inner", 3, "q#l b=1 'd / 'e", "put 5 3 4; attrs 5 b=1; data 6 'd; data 4 'e"},
		{"'a p#k 'b q#l 'c / / br", 6, "inner", 3, "q#l b=1 'd / 'e", "put 4 3 0; attrs 5 b=1; data 6 'd; data 4 'e"},
		{"p / p#k 'x / p /", 0, "inner", 3, "p#k / *", "make 6 p#k; put 6 3 4"},
		{"p#a / p#b / p#c /", 3, "inner", 1, "p#c / p#b / p#a /", "put 4 1 2; put 2 1 0"},
		{"p q r 'x / / /", 5, "inner", 3, "_", ""},
		{"p q r 'x / / /", 5, "inner", 3, "'y *", "make 6 'y; put 6 3 4"},
		// The node alone, in its parent, with others ahead and behind.
		{"p /", 0, "outer", 2, "", "gone 2"},
		{"'a p / 'b", 0, "outer", 3, "", "gone 3"},
		{"'a p 'x / 'b", 4, "outer", 3, "", "gone 3"},
		{"p /", 0, "outer", 2, "p /", ""},
		{"p 'x /", 0, "outer", 2, "p /", "gone 3"},
		{"p 'x /", 0, "outer", 2, "p 'y /", "data 3 'y"},
		{"p a:1 b=2 'x /", 0, "outer", 2, "p c=3 d:4 * /", "attrs 2 a:1 c=3"},
		{"'a p#k 'x / 'b", 4, "outer", 3, "p#k a=1 'y 'z /", "attrs 3 a=1; data 4 'y; make 6 'z; put 6 3 0"},
		{"p#k 'x q#l / / 'b", 4, "outer", 2, "p#k q#l 'y / 'z /", "put 3 2 0; make 6 'y; put 6 4 0; data 3 'z"},
		{"p#k 'x q#l / / 'b", 0, "outer", 2, "p#k q#l 'y / 'z /", "put 4 2 3; make 6 'y; put 6 4 0; data 3 'z"},
		{"p#k 'x q#l / / 'b", 3, "outer", 2, "p#k q#l 'y / 'z /", "put 4 2 3; make 6 'y; put 6 4 0; data 3 'z"},
		{"p#k 'x q#l 'w / / 'b", 5, "outer", 2, "p#k q#l 'y / 'z /", "put 3 2 0; data 5 'y; data 3 'z"},
		{"p / 'b", 0, "outer", 2, "'x", "make 4 'x; put 4 1 2; gone 2"},
		{"'a p / br", 0, "outer", 3, "br", "make 5 br; put 5 1 3; gone 3"},
		{"'a p 'x / 'b", 0, "outer", 3, "q a:1 'x /", "make 6 q; put 6 1 3; attrs 6 a:1; make 7 'x; put 7 6 0; gone 3"},
		{"'a p / 'b", 0, "outer", 3, "p#k /", "make 5 p#k; put 5 1 3; gone 3"},
		{"'a p#k / 'b", 0, "outer", 3, "p /", "make 5 p; put 5 1 3; gone 3"},
		{"'a p / 'b", 0, "outer", 3, "_", ""},
		{"'a p / 'b", 0, "outer", 3, "*", ""},
		// The others aren't looked at, though they would fit.
		{"p#a / p#b / p#c /", 0, "outer", 3, "p#a /", "make 5 p#a; put 5 1 3; gone 3"},
		{"p#a / p#b / p#c /", 0, "outer", 3, "p#c /", "make 5 p#c; put 5 1 3; gone 3"},
		{"p#b / p#b / p#b /", 0, "outer", 3, "p#b 'x /", "make 5 'x; put 5 3 0"},
		// Deeper.
		{"'a p 'b q 'c / 'd / 'e", 6, "outer", 5, "r 'f /", "make 9 r; put 9 3 5; make 10 'f; put 10 9 0; gone 5"},
		{"'a p 'b q 'c / 'd / 'e", 6, "outer", 5, "q br * /", "make 9 br; put 9 5 6"},
		{"'a p q 'c / / 'e", 0, "outer", 4, "", "gone 4"},
	} {
		run(t, named(c.kind), doc(t, c.old, 9, c.focus), c.id, prog(c.want), nil, recs(c.told))
	}
}

// P20.1: what is nowhere has no parent to be patched in; what it has in it is patched as elsewhere, and so is what is below it.
func TestNowhere(t *testing.T) {
	made := func() *dom.Doc {
		d := doc(t, "'a", 20, 0)
		apply(t, d, "make 3 p; make 4 'x; make 5 q; make 6 br; put 5 3 0; put 6 3 0; make 7 br")
		return d
	}
	inner, outer := named("inner"), named("outer")
	run(t, inner, made(), 3, prog("'y _ _"), nil, recs("make 8 'y; put 8 3 5"))
	run(t, inner, made(), 5, prog("'y"), nil, recs("make 8 'y; put 8 5 0"))
	run(t, outer, made(), 5, prog("r 'y /"), nil, recs("make 8 r; put 8 3 5; make 9 'y; put 9 8 0; gone 5"))
	run(t, outer, made(), 5, prog("_ _"), api.ErrRoot, nil)
	for _, s := range []string{"", "_", "*", "p /", "'x", "'x 'y"} {
		run(t, outer, made(), 3, prog(s), api.ErrRoot, nil)
	}
	for _, k := range kinds() {
		run(t, k, made(), 4, prog("'y"), api.ErrKind, nil)
		run(t, k, made(), 6, prog("_"), api.ErrKind, nil)
		run(t, k, made(), 7, prog("_"), api.ErrKind, nil)
	}
}

// sayings are programs by hand: their bytes, the error of these, how many things are wanted beside all, and how many nodes.
func sayings() []saying {
	var l []saying
	for _, s := range []struct {
		words        string
		err          error
		wants, nodes int
	}{
		{"", nil, 0, 0},
		{"_", nil, 1, 0},
		{"*", nil, 1, 0},
		{"_ _", nil, 2, 0},
		{"_ *", nil, 2, 0},
		{"'x", nil, 1, 1},
		{"br#k a=1", nil, 1, 1},
		{"p /", nil, 1, 1},
		{"p _ * /", nil, 1, 1},
		{"p#k a:1 'x br 'y q / * /", nil, 1, 5},
		{"'x *", nil, 2, 1},
		{"_ p 'x / _", nil, 3, 2},
		{"'x 'y 'z", nil, 3, 3},
		{"p / p q q / / / p /", nil, 3, 5},
		{strings.Repeat("_ ", 120), nil, 120, 0},
		{"a=1", api.ErrAttr, 0, 0},
		{"'x a=1", api.ErrAttr, 0, 0},
		{"p a=1 a:1 /", api.ErrAttr, 0, 0},
		{"/", api.ErrOpen, 0, 0},
		{"p", api.ErrOpen, 0, 0},
		{"p 'x q /", api.ErrOpen, 0, 0},
		{"* _", api.ErrSkip, 0, 0},
		{"p * 'x / /", api.ErrSkip, 0, 0},
		{"p#k / br#k", api.ErrKey, 0, 0},
		{strings.Repeat("p ", 9), api.ErrDepth, 0, 0},
		{strings.Repeat("p ", 9) + strings.Repeat("/ ", 9), api.ErrDepth, 0, 0},
		{strings.Repeat("_ ", 121), api.ErrLarge, 0, 0},
		{strings.Repeat("/ ", 121), api.ErrLarge, 0, 0},
		{strings.Repeat("p ", 60) + strings.Repeat("/ ", 61), api.ErrLarge, 0, 0},
	} {
		l = append(l, saying{prog(s.words), s.err, s.wants, s.nodes})
	}
	// Bytes that are none: of no op, not whole, of a name or a text that may not be; also where what is ahead has another error, and one too many.
	for _, b := range []string{"\x00", "\x09", "\xff", "\x04", "\x04\x02a", "\x04\x01\n", "\x01\x02br\x00", "\x03\x01p\x00", "\x01\x01p", "\x01\x00\x00", "\x05\x01A\x00", "\x02\x00", "\x04\x3d" + strings.Repeat("x", 61), strings.Repeat("\x08", 120) + "\x00", strings.Repeat("\x08", 120) + "\x04\x01"} {
		l = append(l, saying{[]byte(b), api.ErrForm, 0, 0})
	}
	return l
}

type saying struct {
	b            []byte
	err          error
	wants, nodes int
}

// P20.1, P20.2: which error is told first, and that nothing is changed then: of all of a list of programs, of all nodes of a document, of each room, nil or not.
func TestRefused(t *testing.T) {
	met := map[error]int{}
	for free := range 7 {
		// 1: 2 p (3 text, 4 br), 5 br, 6 text; 7 p (8 q), 9 text, 10 br are nowhere; 11 was there.
		d := doc(t, "p 'a br / br 'b", free+5, 3)
		apply(t, d, "make 7 p; make 8 q; put 8 7 0; make 9 'x; make 10 br; make 11 p; gone 11")
		if free+1 != d.Free() {
			t.Fatal(d.Free())
		}
		apply(t, d, "make 12 p; put 12 1 5")
		for _, id := range append([]int{0, 1, 2, 3, 4, 5, 6, 7, 8, 9, 10, 11, 12, 13, 14}, far...) {
			for _, p := range sayings() {
				for _, k := range kinds() {
					err := first(d, k, id, p)
					met[err]++
					refused(t, k, d, id, p.b, err)
				}
			}
		}
	}
	for _, err := range []error{nil, api.ErrNone, api.ErrKind, api.ErrRoot, api.ErrFull, api.ErrForm, api.ErrLarge, api.ErrOpen, api.ErrAttr, api.ErrKey, api.ErrSkip, api.ErrDepth} {
		if met[err] < 100 {
			t.Errorf("%v: %d times", err, met[err])
		}
	}
}

// far are identities that no small document has.
var far = []int{-1, -2, 200, 201, 1 << 32, 1<<32 + 1, 1<<32 + 2, -1<<32 + 2, math.MaxInt, math.MinInt, math.MinInt + 1}

// first is the first error, by hand, of a patch of that document.
func first(d *dom.Doc, k kind, id int, p saying) error {
	elements, nowhere := []int{1, 2, 7, 8, 12}, []int{1, 7}
	switch {
	case p.err != nil:
		return p.err
	case id < 1 || id > 12 || id == 11:
		return api.ErrNone
	case !slices.Contains(elements, id):
		return api.ErrKind
	case k.outer && (slices.Contains(nowhere, id) || p.wants > 1):
		return api.ErrRoot
	case d.Free() < p.nodes:
		return api.ErrFull
	}
	return nil
}

// refused holds that a patch has an error, and changes nothing; without an error, that it has none.
func refused(t *testing.T, k kind, d *dom.Doc, id int, b []byte, err error) {
	t.Helper()
	d = d.Clone()
	log, was, wasBytes := mut.New(d), all(d), bytes.Clone(b)
	for _, err := range []error{k.do(nil, nil, id, b), k.do(nil, d, id, b), k.do(log, nil, id, b), k.do(mut.New(nil), nil, id, b)} {
		if !is(err, api.ErrArg) {
			t.Fatalf("%s of nil (%d, %q): %v", k.name, id, short(string(b)), err)
		}
	}
	if all(d) != was || len(log.All()) > 0 {
		t.Fatalf("%s of nil (%d, %q): changed to %s, not %s", k.name, id, short(string(b)), all(d), was)
	}
	if got := k.do(log, d, id, b); !is(got, err) {
		t.Fatalf("%s(%d, %q), of room for %d more: %v, not %v", k.name, id, short(string(b)), d.Free(), got, err)
	}
	if err != nil && (all(d) != was || len(log.All()) > 0) || !bytes.Equal(b, wasBytes) {
		t.Fatalf("%s(%d, %q): changed to %s, not %s", k.name, id, short(string(b)), all(d), was)
	}
}

// P20.1: each beginning of a program's bytes, and each other byte in it, and one more at each place: the error is that of the bytes (layer 12), and then that of the program (layer 13).
func TestBytes(t *testing.T) {
	met := map[error]int{}
	held := func(b []byte) {
		t.Helper()
		l, err := code.Get(b)
		if err == nil {
			err = valid.Check(l)
		}
		met[err]++
		for _, k := range kinds() {
			d := doc(t, "p#k 'a br#k /", 50, 3)
			log := mut.New(d)
			got := k.do(log, d, 2, b)
			// A program that may be, but wants more than one thing, is no outer one's.
			if want, _ := wish.Of(l); err == nil && k.outer && len(want) > 1 {
				err = api.ErrRoot
			}
			if !is(got, err) {
				t.Fatalf("%s(2, %q): %v, not %v", k.name, b, got, err)
			}
		}
	}
	b := prog("p#k a=1 b:2 'hi br#k q / * /")
	for i := range b {
		held(b[:i])
		for x := range 256 {
			c := bytes.Clone(b)
			c[i] = byte(x)
			held(c)
			held(slices.Insert(bytes.Clone(b), i, byte(x)))
		}
		held(slices.Delete(bytes.Clone(b), i, i+1))
	}
	for _, err := range []error{nil, api.ErrForm, api.ErrOpen, api.ErrAttr} {
		if met[err] < 10 {
			t.Errorf("%v: %d times", err, met[err])
		}
	}
}

// P20.1: there must be room for all that may be made, whatever is taken, and whatever goes; just so much is enough.
func TestFull(t *testing.T) {
	for _, c := range []struct {
		kind string
		id   int
		want string
		told string
	}{
		{"inner", 1, "p#k 'a / 'b", "data 4 'b"},
		{"inner", 1, "q r / / 's", "make 5 q; put 5 1 2; make 6 r; put 6 5 0; make 7 's; put 7 1 2; gone 2; gone 4"},
		{"inner", 2, "'a 'b 'c *", "make 5 'b; put 5 2 0; make 6 'c; put 6 2 0"},
		{"outer", 2, "p#k 'a 'b /", "make 5 'b; put 5 2 0"},
		{"outer", 2, "q 'a 'b /", "make 5 q; put 5 1 2; make 6 'a; put 6 5 0; make 7 'b; put 7 5 0; gone 2"},
	} {
		for free := range 5 {
			var err error
			told := recs(c.told)
			if free < 3 {
				err, told = api.ErrFull, nil
			}
			for _, focus := range []int{0, 1, 2, 3, 4} {
				run(t, named(c.kind), doc(t, "p#k 'a / 'x", free, focus), c.id, prog(c.want), err, told)
			}
		}
	}
	// What is nowhere takes room, too; what has gone takes none.
	d := doc(t, "p /", 2, 0)
	apply(t, d, "make 3 'x")
	run(t, named("inner"), d.Clone(), 2, prog("'a 'b"), api.ErrFull, nil)
	run(t, named("outer"), d.Clone(), 2, prog("p 'a /"), api.ErrFull, nil)
	apply(t, d, "gone 3")
	run(t, named("inner"), d.Clone(), 2, prog("'a 'b"), nil, recs("make 4 'a; put 4 2 0; make 5 'b; put 5 2 0"))
	run(t, named("outer"), d.Clone(), 2, prog("p 'a /"), nil, recs("make 4 'a; put 4 2 0"))
	// Where nothing may be made no room is needed.
	run(t, named("inner"), doc(t, "p 'a /", 0, 0), 1, prog(""), nil, recs("gone 2"))
	run(t, named("inner"), doc(t, "p 'a /", 0, 0), 2, prog("_ *"), nil, nil)
	run(t, named("outer"), doc(t, "p 'a /", 0, 0), 2, prog("_"), nil, nil)
	run(t, named("outer"), doc(t, "p 'a /", 0, 0), 2, prog(""), nil, recs("gone 2"))
}

// spot is where a patch is done: some nodes of a parent, and what stands just behind them, or 0.
type spot struct {
	parent int
	ids    []int
	behind int
}

func spotOf(d *dom.Doc, k kind, id int) spot {
	n, _ := d.Node(id)
	if !k.outer {
		return spot{parent: id, ids: n.Kids}
	}
	row := append(kids(d, n.Parent), 0)
	return spot{n.Parent, []int{id}, row[slices.Index(row, id)+1]}
}

// refusal is a patch's error by the chapter's words: the first one of a list.
func refusal(d *dom.Doc, k kind, id int, b []byte) error {
	l, errCode := code.Get(b)
	want, errProgram := wish.Of(l)
	n, there := d.Node(id)
	for _, c := range []struct {
		is  bool
		err error
	}{
		{errCode != nil, errCode},
		{errProgram != nil, errProgram},
		{!there, api.ErrNone},
		{n.Tag == "" || isVoid(n.Tag), api.ErrKind},
		{k.outer && (id == 1 || n.Parent == 0 || len(want) > 1), api.ErrRoot},
		{d.Free() < bound.Nodes(want), api.ErrFull},
	} {
		if c.is {
			return c.err
		}
	}
	return nil
}

// held does a patch, and holds it against the chapter's words, and what follows. The error is told.
func held(t *testing.T, k kind, d *dom.Doc, id int, b []byte) error {
	t.Helper()
	was, log, wasBytes := d.Clone(), mut.New(d), bytes.Clone(b)
	told := refusal(was, k, id, b)
	byWalk := was.Clone()
	walked := mut.New(byWalk)
	var want []wish.Want
	var at spot
	if told == nil {
		l, _ := code.Get(b)
		want, _ = wish.Of(l)
		at = spotOf(was, k, id)
		if err := walk.Patch(walked, byWalk, at.parent, at.ids, at.behind, want); err != nil {
			t.Fatalf("what isn't refused has an error: %v", err)
		}
	}
	err := k.do(log, d, id, b)
	done := log.All()
	fail := func(what, got, told string) {
		t.Helper()
		t.Fatalf("%s(%d, %q) of %s: %s: %s\nnot %s", k.name, id, short(string(b)), all(was), what, got, told)
	}
	if !is(err, told) {
		fail("error", fmt.Sprint(err), fmt.Sprint(told))
	}
	if got, told := telling(done), telling(walked.All()); got != told {
		fail("changes", got, told)
	}
	if got, told := all(d), all(byWalk); got != told {
		fail("document", got, told)
	}
	if !bytes.Equal(b, wasBytes) {
		fail("handed in", string(b), string(wasBytes))
	}
	if err == nil {
		follows(fail, k, was, d, done, id, at, want)
		again(fail, k, d, at, id, b, want)
	}
	return err
}

// follows holds what follows of a patch that was done: P20.2, T2, T3 and T5.
func follows(fail func(what, got, told string), k kind, was, d *dom.Doc, done []api.Rec, id int, at spot, want []wish.Want) {
	now := ran(was, d, at)
	if got, told := treesOf(d, now), denote.Of(want, treesOf(was, at.ids)); !slices.EqualFunc(got, told, tree.Same) {
		fail("trees", fmt.Sprint(got), fmt.Sprint(told))
	}
	if what := outside(was, d, k, id, at, now); what != "" {
		fail("outside", what, "as it was")
	}
	replayed := was.Clone()
	if err := mut.Replay(replayed, done); err != nil || all(replayed) != all(d) {
		fail("replayed", all(replayed), all(d))
	}
	made, old := 0, 0
	for _, r := range done {
		if r.Op == api.Make {
			made++
		}
	}
	for _, id := range at.ids {
		old += len(path.All(was, id))
	}
	if made > bound.Nodes(want) || len(done) > bound.Changes(want, old) {
		fail("bounds", fmt.Sprint(made, len(done)), fmt.Sprint(bound.Nodes(want), bound.Changes(want, old)))
	}
	if what := taken(was, d, at.ids, now, want); what != "" {
		fail("identities", what, "as its match tells")
	}
	if what := focused(was, d, done); what != "" {
		fail("focus", what, telling(done))
	}
}

// again holds that a program without what stays, run a second time, changes nothing (T6).
func again(fail func(what, got, told string), k kind, d *dom.Doc, at spot, id int, b []byte, want []wish.Want) {
	if k.outer {
		// Another node may stand there now; if none does, there is nothing to be patched again.
		i := slices.Index(append(kids(d, at.parent), 0), at.behind)
		if len(want) == 0 || stays(want) || want[0].Kind == wish.Text || isVoid(want[0].Tag) {
			return
		}
		id = kids(d, at.parent)[i-1]
	}
	if stays(want) {
		return
	}
	was, log := all(d), mut.New(d)
	err := k.do(log, d, id, b)
	if !is(err, nil) && !is(err, api.ErrFull) || len(log.All()) > 0 || all(d) != was {
		fail("again", fmt.Sprint(err, telling(log.All()), all(d)), was)
	}
}

// stays tells whether it is wanted somewhere that something stays.
func stays(l []wish.Want) bool {
	return slices.ContainsFunc(l, func(w wish.Want) bool {
		return w.Kind == wish.Node || w.Kind == wish.All || stays(w.Kids)
	})
}

func treesOf(d *dom.Doc, ids []int) []api.Tree {
	var l []api.Tree
	for _, id := range ids {
		x, _ := tree.Of(d, id)
		l = append(l, x)
	}
	return l
}

// ran are the nodes that stand where some stood.
func ran(was, d *dom.Doc, at spot) []int {
	old, now := kids(was, at.parent), kids(d, at.parent)
	end := len(old)
	if at.behind != 0 {
		end = slices.Index(old, at.behind)
	}
	return now[end-len(at.ids) : len(now)-(len(old)-end)]
}

// outside tells what of the nodes outside the patched one isn't as it was, or is there anew.
func outside(was, d *dom.Doc, k kind, id int, at spot, now []int) string {
	within := path.All(was, id)
	if !k.outer {
		within = within[1:]
	}
	for _, x := range was.Ids() {
		if slices.Contains(within, x) {
			continue
		}
		old, _ := was.Node(x)
		n, _ := d.Node(x)
		if x == at.parent {
			i := 0
			if k.outer {
				i = slices.Index(old.Kids, id)
			}
			old.Kids = slices.Concat(old.Kids[:i], now, old.Kids[i+len(at.ids):])
		}
		if shown(n) != shown(old) {
			return shown(n) + ", not " + shown(old)
		}
	}
	for _, x := range d.Ids() {
		in := slices.ContainsFunc(now, func(id int) bool { return path.Inside(d, x, id) })
		if _, old := was.Node(x); !old && !in {
			return fmt.Sprint(x, " is there")
		}
	}
	return ""
}

// taken holds the identities of what stands now: each is that of what was taken, or kept, with its Note, or one that was never given.
func taken(was, d *dom.Doc, ids, now []int, want []wish.Want) string {
	var olds []match.Old
	for _, id := range ids {
		n, _ := was.Node(id)
		olds = append(olds, match.Old{Tag: n.Tag, Key: n.Key})
	}
	found := match.Of(olds, want)
	for i, w := range want {
		took := found.Take[i]
		switch {
		case w.Kind == wish.All:
			if !slices.Equal(now, at(ids, found.Kept)) {
				return fmt.Sprint(now, " aren't kept ", found.Kept)
			}
			return ""
		case took < 0 && w.Kind == wish.Node:
			continue
		case took >= 0 && (now[0] != ids[took] || noteOf(d, now[0]) != noteOf(was, now[0])):
			return fmt.Sprint(now[0], " isn't taken ", ids[took])
		case took < 0 && (now[0] < was.Next() || noteOf(d, now[0]) != 0):
			return fmt.Sprint(now[0], " isn't new")
		}
		if w.Kind == wish.Elem {
			// Of what is new there are none: of an identity that wasn't there.
			if what := taken(was, d, kids(was, now[0]), kids(d, now[0]), w.Kids); what != "" {
				return what
			}
		}
		now = now[1:]
	}
	if len(now) > 0 {
		return fmt.Sprint(now, " aren't wanted")
	}
	return ""
}

func at(ids, places []int) []int {
	var l []int
	for _, place := range places {
		l = append(l, ids[place])
	}
	return l
}

func noteOf(d *dom.Doc, id int) int64 {
	n, _ := d.Node(id)
	return n.Note
}

// focused holds that the focus is the same, if it is there, and then no change puts it, or what it is in, or lets it go.
func focused(was, d *dom.Doc, done []api.Rec) string {
	_, there := d.Node(was.Focus())
	if !there {
		if d.Focus() != 0 {
			return fmt.Sprint(d.Focus(), " is the focus")
		}
		return ""
	}
	if d.Focus() != was.Focus() {
		return fmt.Sprint(d.Focus(), " is the focus, not ", was.Focus())
	}
	up := path.Up(was, was.Focus())
	if !slices.Equal(up, path.Up(d, d.Focus())) {
		return "it is elsewhere"
	}
	for _, r := range done {
		if slices.Contains(up, r.Id) && r.Op != api.Attrs && r.Op != api.Data {
			return fmt.Sprint(r)
		}
	}
	return ""
}

// each calls do with all lists of up to n of l.
func each[T any](l []T, n int, do func([]T)) {
	lists := [][]T{nil}
	for ; n >= 0; n-- {
		var longer [][]T
		for _, x := range lists {
			do(x)
			for _, y := range l {
				longer = append(longer, append(slices.Clip(x), y))
			}
		}
		lists = longer
	}
}

// P20.1, P20.2: all short lists of instructions, whether they may be a program or not, of each node of a document, with each focus.
func TestAllSmall(t *testing.T) {
	met, n := map[error]int{}, 0
	for _, s := range []string{"'a p#k a:1 'b q#l / / 'c", "p#k p#k br#k / / p 'x /"} {
		first := doc(t, s, 3, 0)
		apply(t, first, "make 7 p; make 8 'x; put 8 7 0")
		for _, focus := range []int{0, 3, 4, 5} {
			if err := first.SetFocus(focus); err != nil {
				t.Fatal(err)
			}
			each(program("p#k q#l p br#k / 'x _ * a=2"), 4, func(l []api.Ins) {
				b := inBytes(l)
				for _, k := range kinds() {
					id := 1 + n%9
					met[held(t, k, first.Clone(), id, b)]++
					n++
				}
			})
		}
	}
	for _, err := range []error{nil, api.ErrNone, api.ErrKind, api.ErrRoot, api.ErrFull, api.ErrOpen, api.ErrAttr, api.ErrKey, api.ErrSkip} {
		if met[err] < 10 {
			t.Errorf("%v: %d times of %d", err, met[err], n)
		}
	}
}

// tags and keys are picked from.
var (
	tags = []string{"p", "p", "p", "q", "br", "q"}
	keys = []string{"", "", "k", "l", "m", ""}
)

func someAttrs(pick func(n int) int) []api.Attr {
	var l []api.Attr
	for range []int{0, 1, 2, 3, 6, 10}[pick(6)] {
		a := api.Attr{Name: string(rune('a' + pick(10))), Value: string(rune('0' + pick(4))), Static: pick(2) == 0}
		if !slices.ContainsFunc(l, func(b api.Attr) bool { return a.Name == b.Name }) && len(l) < 8 {
			l = append(l, a)
		}
	}
	return l
}

func someTrees(depth int, pick func(n int) int) []api.Tree {
	var l []api.Tree
	for range pick(6) {
		if pick(3) == 0 {
			l = append(l, api.Tree{Text: string(rune('a' + pick(5)))})
			continue
		}
		x := api.Tree{Tag: tags[pick(6)], Key: keys[pick(6)], Attrs: someAttrs(pick)}
		if depth > 0 && x.Tag != "br" {
			x.Kids = someTrees(depth-1, pick)
		}
		l = append(l, x)
	}
	return l
}

// someWants are those of a program, unless there are too many.
func someWants(depth, most int, staying bool, pick func(n int) int) []wish.Want {
	var l []wish.Want
	for range pick(most + 1) {
		w := wish.Want{Kind: []int{wish.Elem, wish.Elem, wish.Elem, wish.Elem, wish.Text, wish.Text, wish.Node, wish.All}[pick(8)]}
		if !staying && w.Kind > wish.Text {
			w.Kind = wish.Text
		}
		switch w.Kind {
		case wish.Text:
			w.Text = string(rune('a' + pick(5)))
		case wish.Elem:
			w.Tag, w.Key, w.Attrs = tags[pick(6)], keys[pick(6)], someAttrs(pick)
			if slices.ContainsFunc(l, func(x wish.Want) bool { return w.Key == x.Key }) {
				w.Key = ""
			}
			if depth > 0 && w.Tag != "br" {
				w.Kids = someWants(depth-1, 6, staying, pick)
			}
		}
		if l = append(l, w); w.Kind == wish.All {
			break
		}
	}
	return l
}

// someBytes are those of a program, at times with a fault, or any.
func someBytes(pick func(n int) int) []byte {
	b := inBytes(wish.Back(someWants(2, []int{1, 1, 3, 6}[pick(4)], pick(2) == 0, pick)))
	switch i := pick(len(b) + 1); pick(12) {
	case 0:
		b = slices.Insert(b, i, byte(pick(9)))
	case 1:
		b = b[:i]
	case 2:
		b = slices.Concat(b[:i], b)
	case 3:
		if i < len(b) {
			b[i] = byte(pick(256))
		}
	}
	return b
}

// chance does some patches, one behind the other, at nodes that are picked, of what is picked.
func chance(t *testing.T, met map[error]int, pick func(n int) int) {
	t.Helper()
	most, l := 120, []api.Tree(nil)
	for _, x := range someTrees(3, pick) {
		if n := tree.Count(x); n <= most {
			most, l = most-n, append(l, x)
		}
	}
	d := below(t, 121+[]int{0, 5, 20, 79}[pick(4)]-[]int{0, most}[pick(2)], l)
	for range 8 {
		ids := d.Ids()
		if err := d.SetFocus(append(ids, 0)[pick(len(ids)+1)]); err != nil {
			t.Fatal(err)
		}
		if pick(8) == 0 {
			// What was picked is nowhere then.
			mut.Replay(d, []api.Rec{{Op: api.Make, Id: d.Next(), Tag: "p"}, {Op: api.Put, Id: ids[pick(len(ids))], Parent: d.Next()}})
		}
		id := ids[pick(len(ids))]
		if pick(8) == 0 {
			id = pick(250)
		}
		met[held(t, kinds()[pick(2)], d, id, someBytes(pick))]++
	}
}

// P20.1, P20.2: by chance, by a fixed seed.
func TestByChance(t *testing.T) {
	r, met := rand.New(rand.NewSource(20)), map[error]int{}
	for range 3000 {
		chance(t, met, r.Intn)
	}
	for _, err := range []error{nil, api.ErrNone, api.ErrKind, api.ErrRoot, api.ErrFull, api.ErrForm, api.ErrLarge, api.ErrOpen, api.ErrAttr, api.ErrKey, api.ErrSkip} {
		if met[err] < 20 || err == nil && met[err] < 6000 {
			t.Errorf("%v: %d times", err, met[err])
		}
	}
}

// P20.1: nothing that was handed in is kept: what is written into it later changes neither the document nor the log; nor is what lies behind its end read, or written.
func TestHandedIn(t *testing.T) {
	for _, k := range kinds() {
		d := doc(t, "p#k a=1 'a / 'b", 50, 0)
		whole := prog("p#k b:2 c=3 'hello q#l d=4 'x / br#m / 'y")
		end := len(prog("p#k b:2 c=3 'hello q#l d=4 'x / br#m /"))
		b, was := whole[:end], bytes.Clone(whole)
		log := mut.New(d)
		if err := k.do(log, d, 2, b); err != nil || !bytes.Equal(whole, was) {
			t.Fatalf("%s: %v, %q, not %q", k.name, err, whole, was)
		}
		now, done := all(d), telling(log.All())
		for i := range whole {
			whole[i] = 'z'
		}
		if all(d) != now || telling(log.All()) != done {
			t.Errorf("%s: a change of what was handed in changes %s%s", k.name, all(d), telling(log.All()))
		}
	}
}

// P20.1, P20.2: a log that has changes keeps them; those of a patch, and of the next one, come behind; one that is refused adds none.
func TestLog(t *testing.T) {
	d, err := dom.New(20)
	if err != nil {
		t.Fatal(err)
	}
	old, log := d.Clone(), mut.New(d)
	ahead := recs("make 2 p#k; put 2 1 0; make 3 'a; put 3 1 2; gone 3")
	for _, r := range ahead {
		if err := log.Do(r); err != nil {
			t.Fatal(err)
		}
	}
	for _, c := range []struct {
		kind string
		id   int
		want string
		err  error
	}{
		{"inner", 1, "'b p#k /", nil},
		{"outer", 1, "'b", api.ErrRoot},
		{"outer", 2, "p#k 'c /", nil},
		{"inner", 4, "'c", api.ErrKind},
		{"inner", 2, "'d 'e", nil},
		{"inner", 2, strings.Repeat("'x ", 16), api.ErrFull},
		{"outer", 2, "", nil},
		{"outer", 2, "", api.ErrNone},
	} {
		if err := named(c.kind).do(log, d, c.id, prog(c.want)); !is(err, c.err) {
			t.Errorf("%s %d %s: %v, not %v", c.kind, c.id, c.want, err, c.err)
		}
	}
	told := append(ahead, recs("make 4 'b; put 4 1 2; make 5 'c; put 5 2 0; data 5 'd; make 6 'e; put 6 2 0; gone 2")...)
	if telling(log.All()) != telling(told) {
		t.Errorf("%s\nnot%s", telling(log.All()), telling(told))
	}
	if err := mut.Replay(old, log.All()); err != nil || all(old) != all(d) {
		t.Errorf("%v, replayed %s, not %s", err, all(old), all(d))
	}
}

// P1: a log of another document, or of none, isn't what the chapter speaks of; the call ends all the same, and d itself is as it was.
func TestOtherLog(t *testing.T) {
	for _, s := range []string{"", "*", "_ 'x", "'x 'y 'z", "p#k 'x q / / br", "p#l / p#k _ 'x / p#m a=1 'x 'y / 'z", "q 'x 'y 'z / q / q /", "p#k q#l a=2 'x 'y / 'z /"} {
		for _, focus := range []int{0, 3, 4, 5} {
			for _, other := range []*dom.Doc{nil, doc(t, "", 0, 0), doc(t, "'a", 9, 0), doc(t, "'a p#k 'b / br p#l / 'c 'd q /", 2, 4), doc(t, "p q r / / /", 9, 2)} {
				for _, k := range kinds() {
					d := doc(t, "'a p#k 'b q#l / / p#l / 'c", 20, focus)
					was := all(d)
					for id := range 9 {
						k.do(mut.New(other), d, id, prog(s))
					}
					if all(d) != was {
						t.Errorf("%s of %s: changed to %s, not %s", k.name, s, all(d), was)
					}
				}
			}
		}
	}
}

// P1: nothing is kept from call to call: goroutines may patch documents of their own at once (go test -race sees more).
func TestTogether(t *testing.T) {
	b := prog("p#l / p#k c=2 'd q b=1 / / 'e")
	start := doc(t, "'a p#k a:1 'b / p#l / 'c", 50, 4)
	byWalk := start.Clone()
	walked := mut.New(byWalk)
	want, err := wish.Of(program("p#l / p#k c=2 'd q b=1 / / 'e"))
	if err != nil {
		t.Fatal(err)
	}
	if err := walk.Patch(walked, byWalk, 1, kids(byWalk, 1), 0, want); err != nil {
		t.Fatal(err)
	}
	var together sync.WaitGroup
	for range 6 {
		together.Go(func() {
			for range 50 {
				d := start.Clone()
				log := mut.New(d)
				if err := patch.Inner(log, d, 1, b); err != nil || telling(log.All()) != telling(walked.All()) || all(d) != all(byWalk) {
					t.Errorf("%v:%s\nnot%s", err, telling(log.All()), telling(walked.All()))
				}
			}
		})
	}
	together.Wait()
}

// P1, P20.1: the widest and deepest documents, and the greatest programs.
func TestGreatDocuments(t *testing.T) {
	var l []api.Tree
	for i := range 80 {
		l = append(l, api.Tree{Tag: "p", Key: strconv.Itoa(i + 2)})
	}
	wide := below(t, 200, l)
	var turned []string
	for i := 60; i > 0; i-- {
		turned = append(turned, "p#"+strconv.Itoa(i+1), "/")
	}
	for _, focus := range []int{0, 1, 2, 30, 60, 81} {
		if err := wide.SetFocus(focus); err != nil {
			t.Fatal(err)
		}
		for _, s := range []string{"", strings.Join(turned, " "), strings.Repeat("'x ", 119), strings.Repeat("'x ", 120), strings.Repeat("_ ", 120), strings.Repeat("_ ", 80) + strings.Repeat("br ", 39) + "*"} {
			if err := held(t, named("inner"), wide.Clone(), 1, prog(s)); (err != nil) != (s == strings.Repeat("'x ", 120)) {
				t.Errorf("%s: %v", s, err)
			}
		}
	}
	for _, id := range []int{2, 30, 81} {
		for _, s := range []string{"p#" + strconv.Itoa(id) + " /", "p#" + strconv.Itoa(id) + strings.Repeat(" 'x", 118) + " /", "p#2 * /", "br", "_", ""} {
			if err := held(t, named("outer"), wide.Clone(), id, prog(s)); err != nil {
				t.Errorf("%d %s: %v", id, s, err)
			}
		}
	}
	deep := api.Tree{Text: "x"}
	for range 190 {
		deep = api.Tree{Tag: "p", Kids: []api.Tree{deep}}
	}
	d := below(t, 200, []api.Tree{deep})
	inmost := strings.Repeat("p ", 8) + "%s " + strings.Repeat("/ ", 8)
	for _, focus := range []int{0, 2, 9, 10, 100, 192} {
		if err := d.SetFocus(focus); err != nil {
			t.Fatal(err)
		}
		for _, in := range []string{"", "_", "*", "'y"} {
			for _, id := range []int{1, 2, 100, 184, 190, 191} {
				b := prog(fmt.Sprintf(inmost, in))
				if err := held(t, named("inner"), d.Clone(), id, b); (err != nil) != (in == "'y" && d.Free() < 9) {
					t.Errorf("%d %q: %v", id, in, err)
				}
				if err := held(t, named("outer"), d.Clone(), id, b); (err != nil) != (id == 1 || in == "'y" && d.Free() < 9) {
					t.Errorf("%d %q: %v", id, in, err)
				}
			}
		}
	}
}

// P1: very many bytes end soon.
func TestGreatBytes(t *testing.T) {
	const many = 1 << 24
	for _, c := range []struct {
		b   []byte
		err error
	}{
		{make([]byte, many), api.ErrForm},
		{bytes.Repeat([]byte{1}, many), api.ErrForm},
		{bytes.Repeat([]byte{2}, many), api.ErrLarge},
		{bytes.Repeat([]byte{8}, many), api.ErrLarge},
		{bytes.Repeat([]byte{255}, many), api.ErrForm},
		{append(prog("p#k /"), make([]byte, many)...), api.ErrForm},
	} {
		for _, k := range kinds() {
			run(t, k, doc(t, "p#k 'a /", 5, 3), 2, c.b, c.err, nil)
		}
	}
}

// P1: a goal for go test -fuzz; its seeds run in every test. Each byte picks something.
func FuzzPatch(f *testing.F) {
	for _, s := range []string{"", strings.Repeat("\x05\x01\x02\x00\x03", 60), strings.Repeat("\x03\x01\x00\x02\x04\x01\x05", 90), strings.Repeat("\x02\x02\x01\x03", 200), strings.Repeat("\x04\x05\x06\x02\x01\x01\x00\x03", 100)} {
		f.Add([]byte(s))
	}
	f.Fuzz(func(t *testing.T, b []byte) {
		chance(t, map[error]int{}, func(n int) int {
			if len(b) == 0 {
				return 0
			}
			x := int(b[0]) % n
			b = b[1:]
			return x
		})
	})
}
