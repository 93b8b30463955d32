package wish_test

import (
	"fmt"
	"math"
	"math/rand"
	"slices"
	"strings"
	"sync"
	"testing"

	"placket/api"
	"placket/valid"
	"placket/wish"
)

// The ops, the kinds, and the errors, by their numbers, as the document tells them.
const (
	open     = 1
	closes   = 2
	void     = 3
	text     = 4
	dynamic  = 5
	static   = 6
	skip     = 7
	skipNode = 8

	elem  = 1
	words = 2
	next  = 3
	rest  = 4

	errForm  = 7
	errOpen  = 8
	errAttr  = 9
	errKey   = 10
	errSkip  = 11
	errDepth = 12
	errLarge = 13
)

func in(op int, a, b string) api.Ins { return api.Ins{Op: op, A: a, B: b} }
func rep(s string, n int) string     { return strings.Repeat(s, n) }
func isVoid(tag string) bool         { return slices.Contains([]string{"br", "hr", "img", "input"}, tag) }

// of is the program of words: p, or p#k, an Open; br, or br#k, a Void; / a Close; a=1 a Dynamic; a:1 a Static; 'x a Text; * a Skip; _ a SkipNode; ! what may not be.
func of(s string) []api.Ins {
	var l []api.Ins
	for _, w := range strings.Fields(s) {
		l = append(l, one(w))
	}
	return l
}

func one(w string) api.Ins {
	switch w[0] {
	case '/':
		return in(closes, "", "")
	case '*':
		return in(skip, "", "")
	case '_':
		return in(skipNode, "", "")
	case '\'':
		return in(text, w[1:], "")
	case '!':
		return in(0, "", "")
	}
	if a, b, ok := strings.Cut(w, "="); ok {
		return in(dynamic, a, b)
	}
	if a, b, ok := strings.Cut(w, ":"); ok {
		return in(static, a, b)
	}
	a, b, _ := strings.Cut(w, "#")
	if isVoid(a) {
		return in(void, a, b)
	}
	return in(open, a, b)
}

// What is wanted.
func tx(s string) wish.Want { return wish.Want{Kind: words, Text: s} }
func stays() wish.Want      { return wish.Want{Kind: next} }
func all() wish.Want        { return wish.Want{Kind: rest} }
func el(tag string, kids ...wish.Want) wish.Want {
	return wish.Want{Kind: elem, Tag: tag, Kids: kids}
}
func key(w wish.Want, key string) wish.Want         { w.Key = key; return w }
func at(w wish.Want, l ...api.Attr) wish.Want       { w.Attrs = l; return w }
func with(w wish.Want, kids ...wish.Want) wish.Want { w.Kids = kids; return w }
func list(l ...wish.Want) []wish.Want               { return l }
func dyn(name, value string) api.Attr               { return api.Attr{Name: name, Value: value} }
func sta(name, value string) api.Attr               { return api.Attr{Name: name, Value: value, Static: true} }

// show tells what is wanted with all its fields; two are the same if they are shown so.
func show(l []wish.Want) string {
	var s strings.Builder
	showTo(&s, l)
	return s.String()
}

func showTo(s *strings.Builder, l []wish.Want) {
	for _, w := range l {
		fmt.Fprintf(s, "(%d %q %q %q", w.Kind, w.Tag, w.Key, w.Text)
		for _, a := range w.Attrs {
			fmt.Fprintf(s, " %q=%q %v", a.Name, a.Value, a.Static)
		}
		s.WriteString(" in it")
		showTo(s, w.Kids)
		s.WriteString(")")
	}
}

func shown(l []api.Ins) string {
	s := fmt.Sprint(len(l), ":")
	for _, i := range l[:min(len(l), 30)] {
		s += fmt.Sprintf(" %d %.70q %.70q", i.Op, i.A, i.B)
	}
	return s
}

func short(s string) string { return s[:min(len(s), 2000)] }

// ownWants and ownAttrs copy all of what is wanted, so that no later change is a copy's.
func ownAttrs(l []api.Attr) []api.Attr { return append([]api.Attr(nil), l...) }

func ownWants(l []wish.Want) []wish.Want {
	var own []wish.Want
	for _, w := range l {
		w.Attrs, w.Kids = ownAttrs(w.Attrs), ownWants(w.Kids)
		own = append(own, w)
	}
	return own
}

// wantedOf tells what a program that may be wants, from behind: what stands behind an instruction is known when it is reached.
func wantedOf(l []api.Ins) []wish.Want {
	places := [][]wish.Want{nil}
	var told []api.Attr
	for _, i := range slices.Backward(l) {
		w := wish.Want{Kind: elem, Tag: i.A, Key: i.B, Attrs: told}
		switch i.Op {
		case closes:
			places = append(places, nil)
			continue
		case dynamic, static:
			told = append([]api.Attr{{Name: i.A, Value: i.B, Static: i.Op == static}}, told...)
			continue
		case open:
			w.Kids = places[len(places)-1]
			places = places[:len(places)-1]
		case text:
			w = wish.Want{Kind: words, Text: i.A}
		case skipNode:
			w = wish.Want{Kind: next}
		case skip:
			w = wish.Want{Kind: rest}
		}
		told = nil
		here := &places[len(places)-1]
		*here = append([]wish.Want{w}, *here...)
	}
	return places[0]
}

// programOf tells the instructions that want l, with what is still to be told on a pile, topmost last.
func programOf(l []wish.Want) []api.Ins {
	type todo struct {
		w   wish.Want
		end bool
	}
	var pile []todo
	lay := func(l []wish.Want) {
		for _, w := range slices.Backward(l) {
			pile = append(pile, todo{w: w})
		}
	}
	var p []api.Ins
	lay(l)
	for len(pile) > 0 {
		top := pile[len(pile)-1]
		pile = pile[:len(pile)-1]
		w := top.w
		switch {
		case top.end:
			p = append(p, in(closes, "", ""))
			continue
		case w.Kind == words:
			p = append(p, in(text, w.Text, ""))
		case w.Kind == next:
			p = append(p, in(skipNode, "", ""))
		case w.Kind == rest:
			p = append(p, in(skip, "", ""))
		case w.Kind == elem && isVoid(w.Tag):
			p = append(p, in(void, w.Tag, w.Key))
		case w.Kind == elem:
			p = append(p, in(open, w.Tag, w.Key))
			pile = append(pile, todo{end: true})
			lay(w.Kids)
		}
		for n := 0; w.Kind == elem && n < len(w.Attrs); n++ {
			op := map[bool]int{false: dynamic, true: static}[w.Attrs[n].Static]
			p = append(p, in(op, w.Attrs[n].Name, w.Attrs[n].Value))
		}
	}
	return p
}

// countOf is how many instructions that make a node want l: a void one's Kids, that none want, are not asked of here.
func countOf(l []api.Ins) int {
	n := 0
	for _, i := range l {
		if i.Op == open || i.Op == void || i.Op == text {
			n++
		}
	}
	return n
}

// backs and counts hold what is told of what is wanted, and that it isn't changed.
func backs(t *testing.T, l []wish.Want, want []api.Ins) {
	t.Helper()
	given := show(l)
	if got := wish.Back(l); !slices.Equal(got, want) {
		t.Errorf("Back(%s): %s, not %s", short(given), shown(got), shown(want))
	}
	if show(l) != given {
		t.Errorf("Back(%s) changed it to %s", short(given), short(show(l)))
	}
}

func counts(t *testing.T, l []wish.Want, want int) {
	t.Helper()
	given := show(l)
	if got := wish.Count(l); got != want {
		t.Errorf("Count(%s): %d, not %d", short(given), got, want)
	}
	if show(l) != given {
		t.Errorf("Count(%s) changed it to %s", short(given), short(show(l)))
	}
}

// same holds whether two are, both ways.
func same(t *testing.T, a, b []wish.Want, want bool) {
	t.Helper()
	before := show(a) + show(b)
	if wish.Same(a, b) != want || wish.Same(b, a) != want {
		t.Errorf("Same(%s, %s) isn't %v", short(show(a)), short(show(b)), want)
	}
	if show(a)+show(b) != before {
		t.Errorf("Same changed one: %s, %s", short(show(a)), short(show(b)))
	}
}

// wants holds a program that may be, and what it wants, against each other, in all ways.
func wants(t *testing.T, p []api.Ins, want ...wish.Want) {
	t.Helper()
	given := slices.Clone(p)
	got, err := wish.Of(p)
	if err != nil || show(got) != show(want) {
		t.Errorf("Of(%s): %s, %v, not %s", shown(p), short(show(got)), err, short(show(want)))
	}
	if !slices.Equal(given, p) {
		t.Errorf("Of(%s) changed it to %s", shown(given), shown(p))
	}
	same(t, got, want, true)
	backs(t, want, p)
	backs(t, got, p)
	counts(t, want, countOf(p))
}

// refuses holds that a program is refused, with the error itself and nothing wanted.
func refuses(t *testing.T, p []api.Ins, want api.Code) {
	t.Helper()
	given := slices.Clone(p)
	// Itself, not one that only stands for it.
	if got, err := wish.Of(p); err == nil || err != error(want) || len(got) != 0 {
		t.Errorf("Of(%s): %s, %v, not %v", shown(p), short(show(got)), err, want)
	}
	if !slices.Equal(given, p) {
		t.Errorf("Of(%s) changed it to %s", shown(given), shown(p))
	}
}

// holds holds any program against layer 13, and the words told another way: whether it may be.
func holds(t *testing.T, p []api.Ins) bool {
	t.Helper()
	err := valid.Check(p)
	if err != nil {
		refuses(t, p, err.(api.Code))
		return false
	}
	wants(t, p, wantedOf(p)...)
	return true
}

// P14.1, P14.3: the chapter's example, and ordinary programs.
func TestOrdinary(t *testing.T) {
	wants(t, of("p 'a /"), el("p", tx("a")))
	counts(t, list(el("p", tx("a"))), 2)
	wants(t, nil)
	wants(t, []api.Ins{})
	wants(t, of("'hi"), tx("hi"))
	wants(t, of("p /"), el("p"))
	wants(t, of("p#k /"), key(el("p"), "k"))
	wants(t, of("br"), el("br"))
	wants(t, of("br#k"), key(el("br"), "k"))
	wants(t, of("_"), stays())
	wants(t, of("*"), all())
	wants(t, of("p a=1 /"), at(el("p"), dyn("a", "1")))
	wants(t, of("p a:1 /"), at(el("p"), sta("a", "1")))
	wants(t, of("br a=1 b:2 'x"), at(el("br"), dyn("a", "1"), sta("b", "2")), tx("x"))
	wants(t, of("'x 'y '"), tx("x"), tx("y"), tx(""))
	wants(t, of("p / p / q /"), el("p"), el("p"), el("q"))
	wants(t, of("p q / / r /"), el("p", el("q")), el("r"))
	wants(t, of("ul a=1 li#a 'x br / li#b _ * / 'y * / 'z *"),
		at(el("ul", key(el("li", tx("x"), el("br")), "a"), key(el("li", stays(), all()), "b"), tx("y"), all()), dyn("a", "1")), tx("z"), all())
	counts(t, nil, 0)
	counts(t, list(), 0)
	counts(t, list(el("p"), tx("x"), stays(), all()), 2)
	counts(t, list(el("p", el("q", tx("x"), stays()), tx("y"), all()), el("br"), tx("")), 6)
	same(t, nil, nil, true)
	same(t, nil, list(), true)
	same(t, list(tx("x")), list(tx("x")), true)
	same(t, list(tx("x")), nil, false)
	same(t, list(tx("x")), list(tx("y")), false)
}

// P14.1: a program that may not be is refused with valid's error, whatever else it wants.
func TestErrors(t *testing.T) {
	eight := "p p p p p p p p "
	for _, c := range []struct {
		want api.Code
		s    string
	}{
		{errForm, "!"}, {errForm, "p ! /"}, {errForm, "'x !"}, {errForm, "P /"}, {errForm, "p A=1 /"}, {errForm, "* !"},
		{errAttr, "a=1"}, {errAttr, "a:1"}, {errAttr, "'x a=1"}, {errAttr, "p / a=1"}, {errAttr, "p 'x a=1 /"}, {errAttr, "p a=1 a:2 /"}, {errAttr, "br a=1 b=1 c=1 d=1 e=1 f=1 g=1 h=1 i=1"}, {errAttr, "_ a=1"}, {errAttr, "* a=1"},
		{errOpen, "/"}, {errOpen, "p"}, {errOpen, "p / /"}, {errOpen, "br /"}, {errOpen, "p a=1"}, {errOpen, "p q /"}, {errOpen, "'x p 'x"}, {errOpen, eight}, {errOpen, "* /"},
		{errSkip, "* 'x"}, {errSkip, "* p /"}, {errSkip, "* *"}, {errSkip, "* _"}, {errSkip, "p * br /"},
		{errKey, "p#k / p#k /"}, {errKey, "br#k br#k"}, {errKey, "p br#k q#k / /"},
		{errDepth, eight + "p / / / / / / / / /"}, {errDepth, eight + "q"},
		{errLarge, rep("_ ", 121)}, {errLarge, rep("p / ", 61)}, {errLarge, rep("! ", 121)}, {errLarge, rep("/ ", 1000)},
	} {
		refuses(t, of(c.s), c.want)
		if c.want != errLarge {
			refuses(t, append(of("ul li 'x / / br#j a=1 'x "), of(c.s)...), c.want)
		}
	}
	refuses(t, []api.Ins{in(9, "", "")}, errForm)
	refuses(t, []api.Ins{in(math.MinInt, "p", ""), in(math.MaxInt, "", "")}, errForm)
	refuses(t, []api.Ins{in(open, "br", ""), in(closes, "", "")}, errForm)
	refuses(t, []api.Ins{in(void, "p", "")}, errForm)
	refuses(t, []api.Ins{in(text, "x", "k")}, errForm)
	refuses(t, make([]api.Ins, 120), errForm)
	refuses(t, make([]api.Ins, 121), errLarge)
}

// P14.1: an element's attributes are those that are told of it, in order, of both kinds, and no other one's.
func TestAttrs(t *testing.T) {
	for kinds := range 1 << 8 {
		for n := range 9 {
			s, l := "", []api.Attr{}
			for i := range n {
				// Not in order by their names.
				name, static := string(rune('a'+(i*3+2)%8)), kinds>>i&1 == 1
				s += fmt.Sprintf(" %s%c%d", name, "=:"[kinds>>i&1], i)
				l = append(l, api.Attr{Name: name, Value: fmt.Sprint(i), Static: static})
			}
			if kinds>>n != 0 {
				continue
			}
			wants(t, of("p"+s+" /"), at(el("p"), l...))
			wants(t, of("br#k"+s), at(key(el("br"), "k"), l...))
			wants(t, of("p"+s+" q"+s+" / 'x /"), at(el("p", at(el("q"), l...), tx("x")), l...))
			wants(t, of("p"+s+" br"+s+" /"), at(el("p", at(el("br"), l...)), l...))
			wants(t, of("p"+s+" / p z=z / q"+s+" /"), at(el("p"), l...), at(el("p"), dyn("z", "z")), at(el("q"), l...))
			wants(t, of("br"+s+" hr img"+s), at(el("br"), l...), el("hr"), at(el("img"), l...))
		}
	}
	wants(t, []api.Ins{in(void, "br", ""), in(dynamic, "br", ""), in(static, "hr", rep("~", 60)), in(dynamic, "abcdefghijkl", " ")},
		at(el("br"), dyn("br", ""), sta("hr", rep("~", 60)), dyn("abcdefghijkl", " ")))
	// A Kid's are none of its parent's, and the other way round.
	wants(t, of("p q a=1 / /"), el("p", at(el("q"), dyn("a", "1"))))
	wants(t, of("p a=1 q / /"), at(el("p", el("q")), dyn("a", "1")))
	wants(t, of("p br a=1 b:1 /"), el("p", at(el("br"), dyn("a", "1"), sta("b", "1"))))
}

// P14.1: each void tag, and tags that are nearly one.
func TestVoid(t *testing.T) {
	for _, tag := range []string{"br", "hr", "img", "input"} {
		wants(t, []api.Ins{in(void, tag, "")}, el(tag))
		wants(t, []api.Ins{in(void, tag, "k"), in(dynamic, "a", "1"), in(text, "x", "")}, at(key(el(tag), "k"), dyn("a", "1")), tx("x"))
		wants(t, []api.Ins{in(open, "p", ""), in(void, tag, ""), in(void, tag, ""), in(closes, "", "")}, el("p", el(tag), el(tag)))
		// A text, a key, a name, a value of such a tag is none.
		wants(t, []api.Ins{in(open, "p", tag), in(static, tag, tag), in(text, tag, ""), in(closes, "", "")}, at(key(el("p", tx(tag)), tag), sta(tag, tag)))
		backs(t, list(wish.Want{Kind: words, Tag: tag, Text: "x"}), of("'x"))
		for _, near := range []string{tag + "-", tag + "x", tag[:len(tag)-1], "x" + tag, tag + tag, "root", "p"} {
			wants(t, []api.Ins{in(open, near, ""), in(closes, "", "")}, el(near))
			wants(t, []api.Ins{in(open, near, tag), in(static, "a", ""), in(void, tag, near), in(closes, "", "")}, at(key(el(near, key(el(tag), near)), tag), sta("a", "")))
		}
	}
}

// P14.1: texts, keys, tags, names and values at their edges are wanted as they stand.
func TestEdges(t *testing.T) {
	for _, s := range []string{"", " ", "~", "  x ", "<p>&\"", "&lt;", "0", "#", rep("x", 59), rep("<", 60)} {
		wants(t, []api.Ins{in(text, s, "")}, tx(s))
		wants(t, []api.Ins{in(open, "p", s), in(dynamic, "a", s), in(static, "b", s), in(text, s, ""), in(void, "br", s), in(closes, "", "")},
			at(key(el("p", tx(s), key(el("br"), s)), s), dyn("a", s), sta("b", s)))
	}
	for c := 32; c < 127; c++ {
		s := string(rune(c))
		wants(t, []api.Ins{in(text, s, ""), in(void, "hr", s), in(static, "a", s)}, tx(s), at(key(el("hr"), s), sta("a", s)))
	}
	for _, tag := range []string{"a", "z", "a1", "a-", "h1", "a-0-z", "abcdefghijkl"} {
		wants(t, []api.Ins{in(open, tag, ""), in(dynamic, tag, ""), in(closes, "", "")}, at(el(tag), dyn(tag, "")))
	}
	refuses(t, []api.Ins{in(text, rep("x", 61), "")}, errForm)
	refuses(t, []api.Ins{in(open, "abcdefghijklm", ""), in(closes, "", "")}, errForm)
	refuses(t, []api.Ins{in(void, "br", "\x7f")}, errForm)
}

// P14.1: what is wanted in an element is what stands up to its own Close, at each depth.
func TestDepth(t *testing.T) {
	for n := range 9 {
		for _, inner := range []string{"", "'x", "br a=1", "_", "*", "'x br _ 'y *"} {
			want := wantedOf(of(inner))
			for range n {
				want = list(tx("a"), el("p", want...), tx("b"))
			}
			wants(t, of(rep("'a p ", n)+inner+rep(" / 'b", n)), want...)
		}
		// Down, and up, and down again.
		comb := list(tx("x"))
		s := "'x"
		for range n {
			comb, s = list(at(key(el("p", comb...), "k"), dyn("a", "1")), el("br"), el("q"), all()), "p#k a=1 "+s+" / br q / *"
		}
		wants(t, of(s), comb...)
	}
	refuses(t, of(rep("p ", 9)+rep("/ ", 9)), errDepth)
	wants(t, of(rep("p ", 8)+"br"+rep(" /", 8)+" p /"), el("p", el("p", el("p", el("p", el("p", el("p", el("p", el("p", el("br"))))))))), el("p"))
	wants(t, of("p * / p * / *"), el("p", all()), el("p", all()), all())
	wants(t, of("p q / r / / s /"), el("p", el("q"), el("r")), el("s"))
	wants(t, of("p q r / / / s /"), el("p", el("q", el("r"))), el("s"))
}

// P14.1, P14.3: up to 120 instructions.
func TestMany(t *testing.T) {
	for _, s := range []string{"_", "'x", "br", "p /", "p a=1 /", "p 'x br /", "p * /", "p p / /", "br a=1 b:2"} {
		l := of(s)
		for n := 0; n*len(l) <= 126; n++ {
			p := slices.Repeat(l, n)
			if len(p) > 120 {
				refuses(t, p, errLarge)
			} else {
				wants(t, p, slices.Repeat(wantedOf(l), n)...)
			}
		}
	}
	var p []api.Ins
	var want []wish.Want
	for n := range 120 {
		p, want = append(p, in(void, "br", fmt.Sprint(n))), append(want, key(el("br"), fmt.Sprint(n)))
		wants(t, p, want...)
	}
	refuses(t, append(p, in(void, "br", "")), errLarge)
}

// deeper holds each program of up to n more words behind p.
func deeper(t *testing.T, p []api.Ins, n int, from []api.Ins) (may int) {
	if holds(t, p) {
		may = 1
	}
	for i := 0; n > 0 && i < len(from); i++ {
		may += deeper(t, append(p, from[i]), n-1, from)
	}
	return may
}

// P14.1, P14.3: all short programs.
func TestAllShort(t *testing.T) {
	may := deeper(t, nil, 5, of("p p#k br#k / a=1 a:2 b:1 'x * _ !"))
	may += deeper(t, nil, 7, of("p#k / br 'x"))
	may += deeper(t, nil, 6, of("p / br a=1 b:2 *"))
	may += deeper(t, nil, 10, of("p /"))
	if may < 1000 {
		t.Errorf("only %d of them may be", may)
	}
}

// aProgram is one by chance, which may be.
func aProgram(r *rand.Rand, size int) []api.Ins {
	pool := of("p p#a p#b q#c div br br#a img#b hr#d / / / a=1 a:1 b=2 c:3 d=4 e=5 f:6 g=7 h:8 i=9 'x 'hi ' * _ _")
	for {
		var p []api.Ins
		open := 0
		for range size {
			i := pool[r.Intn(len(pool))]
			ends := slices.Repeat(of("/"), max(open+step(i), 0))
			if valid.Check(slices.Concat(p, []api.Ins{i}, ends)) == nil && (i.Op != skip || r.Intn(4) == 0) {
				p, open = append(p, i), open+step(i)
			}
		}
		if p = append(p, slices.Repeat(of("/"), open)...); valid.Check(p) == nil {
			return p
		}
	}
}

// step is how many more are open behind it.
func step(i api.Ins) int {
	switch i.Op {
	case open:
		return 1
	case closes:
		return -1
	}
	return 0
}

// P14.1, P14.3: programs by chance, whole, and with one of them changed, left out, or laid between.
func TestByChance(t *testing.T) {
	pool := of("p p#a br br#a / / a=1 b:1 i=1 'x * _ !")
	for seed := range 2000 {
		r := rand.New(rand.NewSource(int64(seed)))
		p := aProgram(r, 1+r.Intn(120))
		if !holds(t, p) {
			t.Fatal("it may not be")
		}
		for n := 0; n < 4 && len(p) > 0; n++ {
			q := slices.Clone(p)
			at := r.Intn(len(q))
			switch n {
			case 0:
				q[at] = pool[r.Intn(len(pool))]
			case 1:
				q = slices.Delete(q, at, at+1)
			case 2:
				q = slices.Insert(q, at, pool[r.Intn(len(pool))])
			case 3:
				q = q[:at]
			}
			holds(t, q)
		}
	}
}

// P14.1: kinds that there aren't are left out, with all that is in them, wherever they stand; nor do they count.
func TestNoKind(t *testing.T) {
	for _, kind := range []int{0, -1, 5, 6, 7, 8, -4, 9, 255, 256, 257, 258, 260, 1<<32 + 1, math.MinInt, math.MaxInt} {
		x := wish.Want{Kind: kind, Tag: "p", Key: "k", Text: "x", Attrs: []api.Attr{dyn("a", "1")}, Kids: list(el("p"), tx("x"), all())}
		for _, x := range list(x, wish.Want{Kind: kind}, wish.Want{Kind: kind, Tag: "br"}) {
			backs(t, list(x), nil)
			backs(t, list(x, x, x), nil)
			backs(t, list(tx("a"), x, el("p", x, tx("b"), x), x), of("'a p 'b /"))
			backs(t, list(x, at(el("p", el("q", x)), dyn("a", "1")), stays(), x, all()), of("p a=1 q / / _ *"))
			counts(t, list(x), 0)
			counts(t, list(tx("a"), x, el("p", x, tx("b"), x), x), 3)
			same(t, list(x), list(x), true)
			same(t, list(x), nil, false)
			same(t, list(x, tx("x")), list(tx("x"), x), false)
		}
	}
}

// P14.1: of each kind what it is told of counts; what may not be is told all the same.
func TestOtherFields(t *testing.T) {
	more := wish.Want{Tag: "p", Key: "k", Text: "x", Attrs: []api.Attr{dyn("a", "1")}, Kids: list(tx("y"))}
	for kind, s := range map[int]string{words: "'x", next: "_", rest: "*"} {
		more.Kind = kind
		backs(t, list(more), of(s))
		backs(t, list(el("p", more, more)), of("p "+s+" "+s+" /"))
	}
	more.Kind = elem
	backs(t, list(more), of("p#k a=1 'y /"))
	counts(t, list(more), 2)
	// Nothing is in a void one that instructions could want.
	for _, tag := range []string{"br", "hr", "img", "input"} {
		v := at(key(el(tag, tx("y"), el("p")), "k"), dyn("a", "1"), sta("b", ""))
		backs(t, list(v, tx("z")), []api.Ins{in(void, tag, "k"), in(dynamic, "a", "1"), in(static, "b", ""), in(text, "z", "")})
		backs(t, list(el("p", v)), []api.Ins{in(open, "p", ""), in(void, tag, "k"), in(dynamic, "a", "1"), in(static, "b", ""), in(closes, "", "")})
	}
	for _, tag := range []string{"", "P", "BR", " br", "br ", "br\x00", "\xff", "1", rep("x", 13), rep("x", 100)} {
		backs(t, list(el(tag, tx("\n"))), []api.Ins{in(open, tag, ""), in(text, "\n", ""), in(closes, "", "")})
	}
	backs(t, list(key(el("br"), "\n")), []api.Ins{in(void, "br", "\n")})
	backs(t, list(at(key(el("p"), rep("k", 61)), dyn("", ""), sta("A", "\xff"), dyn("a", ""), sta("a", ""))),
		[]api.Ins{in(open, "p", rep("k", 61)), in(dynamic, "", ""), in(static, "A", "\xff"), in(dynamic, "a", ""), in(static, "a", ""), in(closes, "", "")})
	backs(t, list(all(), tx("x"), all()), of("* 'x *"))
	many := slices.Repeat(list(at(el("p", tx("x")), slices.Repeat([]api.Attr{dyn("a", "1")}, 20)...)), 200)
	backs(t, many, slices.Repeat(of("p "+rep("a=1 ", 20)+"'x /"), 200))
	counts(t, many, 400)
	deep := list(el("p", tx("x")))
	for n := 1; n < 30; n++ {
		deep = list(el("p", deep...))
		backs(t, deep, of(rep("p ", n+1)+"'x "+rep("/ ", n+1)))
		counts(t, deep, n+2)
	}
}

// P14.1: each field, at each depth, tells whether two are the same; nil lists and empty ones don't.
func TestSame(t *testing.T) {
	l := list(
		wish.Want{}, wish.Want{Kind: elem}, tx(""), stays(), all(), wish.Want{Kind: 5}, wish.Want{Kind: -1}, tx("x"), tx("y"), tx("xy"), tx(" "), el("x"), key(wish.Want{Kind: elem}, "x"),
		el("p"), el("q"), el("pp"), key(el("p"), "k"), key(el("p"), "j"), key(el("p"), "kk"), el("pk"), el("k"), wish.Want{Kind: words, Tag: "p"}, wish.Want{Kind: words, Key: "x"}, wish.Want{Kind: elem, Text: "x"}, wish.Want{Kind: next, Text: "x"}, wish.Want{Kind: rest, Tag: "p"},
		at(el("p"), dyn("", "")), at(el("p"), dyn("a", "")), at(el("p"), sta("a", "")), at(el("p"), dyn("a", "1")), at(el("p"), sta("a", "1")), at(el("p"), dyn("b", "1")), at(el("p"), dyn("a1", "")), at(el("p"), dyn("", "a")),
		at(el("p"), dyn("a", "1"), dyn("b", "2")), at(el("p"), dyn("b", "2"), dyn("a", "1")), at(el("p"), dyn("a", "1"), sta("b", "2")), at(el("p"), sta("a", "1"), dyn("b", "2")), at(el("p"), dyn("a", "1"), dyn("a", "1")), at(tx(""), dyn("a", "")),
		el("p", wish.Want{}), el("p", tx("")), el("p", tx("x")), el("p", tx("y")), el("p", tx("x"), tx("y")), el("p", tx("y"), tx("x")), el("p", tx("x"), tx("x")), el("p", stays()), el("p", all()), el("p", el("p")), el("p", el("q")), el("p", el("p", tx("x"))), el("p", el("p"), tx("x")), el("p", tx("x"), el("p")),
		with(tx("x"), tx("x")), el("br"), el("hr"), key(el("p", tx("x")), "k"), at(el("p", tx("x")), dyn("a", "1")), el("p", key(el("p"), "k")), el("p", at(el("p"), dyn("a", "1"))), el("p", at(el("p"), sta("a", "1"))),
	)
	lists := [][]wish.Want{nil}
	for _, x := range l {
		lists = append(lists, list(x), list(x, x), list(tx("x"), x), list(x, tx("z")), list(el("div", el("div", tx("a"), x, tx("b")))))
	}
	equal := 0
	for _, a := range lists {
		for _, b := range lists {
			want := show(a) == show(b)
			same(t, a, ownWants(b), want)
			if want {
				equal++
			}
		}
	}
	if equal > len(lists)+100 {
		t.Errorf("%d of %d are the same: the pool is poor", equal, len(lists))
	}
	same(t, list(wish.Want{Kind: elem, Attrs: []api.Attr{}, Kids: list()}), list(wish.Want{Kind: elem}), true)
	same(t, list(el("p", wish.Want{Kind: words, Kids: list(), Attrs: []api.Attr{}})), list(el("p", tx(""))), true)
	// The front of one is another one.
	long := slices.Repeat(list(tx("x")), 100)
	for n := range 100 {
		same(t, long[:n], long, false)
		same(t, long[:n], long[100-n:], true)
		one := slices.Clone(long)
		one[n] = tx("y")
		same(t, one, long, false)
	}
}

// spoil changes all of what is wanted, and what there is room for behind it.
func spoil(l []wish.Want) {
	for n := range l {
		spoil(l[n].Kids)
		for i := range l[n].Attrs {
			l[n].Attrs[i] = sta("spoiled", "spoiled")
		}
		_ = append(l[n].Attrs, sta("behind", ""), sta("behind", ""))
		_ = append(l[n].Kids, tx("behind"), tx("behind"))
	}
	for n := range l {
		l[n] = wish.Want{Kind: elem, Tag: "spoiled"}
	}
	_ = append(l, tx("behind"), tx("behind"))
}

// P14.2: what Of tells is new memory: to change it, or the program, changes no other answer.
func TestOfNew(t *testing.T) {
	p := append(make([]api.Ins, 0, 50), of("p#k a=1 b:2 'x br c=3 q d=4 _ / * / p a=1 'x * / br c=3 *")...)
	room := slices.Clone(p[:cap(p)])
	want := show(wantedOf(p))
	a, _ := wish.Of(p)
	b, _ := wish.Of(p)
	spoil(a)
	if show(b) != want {
		t.Errorf("Of shares what it told: %s", show(b))
	}
	if !slices.Equal(p[:cap(p)], room) {
		t.Errorf("Of shares what it was given: %s", shown(p))
	}
	c, _ := wish.Of(p)
	for i := range p {
		p[i] = in(static, "z", "z")
	}
	if show(b) != want || show(c) != want {
		t.Errorf("Of keeps what it was given: %s", show(b))
	}
}

// each calls f with each list that is wanted in l, l itself among them.
func each(l *[]wish.Want, f func(l *[]wish.Want)) {
	for n := range *l {
		each(&(*l)[n].Kids, f)
	}
	f(l)
}

// P14.2: no two lists of one answer of Of share room: to lay something behind, or over, one changes that one alone.
func TestOfOwnRoom(t *testing.T) {
	p := of("p#k a=1 b:2 e=1 'x br c=3 q d=4 _ _ _ / * / p a=1 f=1 g=1 'x * / br c=3 hr h:1 i=1 j=1 r 'x 'y 'z / s k=1 / *")
	places, _ := wish.Of(p)
	n := 0
	each(&places, func(*[]wish.Want) { n++ })
	for at := range n {
		got, _ := wish.Of(p)
		want := wantedOf(p)
		more, i := tx("more"), 0
		lay := func(l *[]wish.Want) {
			if i++; i-1 != at {
				return
			}
			*l = append(*l, more, more, more)
			for n := range *l {
				(*l)[n].Attrs = append((*l)[n].Attrs, sta("more", ""), sta("most", ""))
			}
		}
		each(&got, lay)
		i = 0
		each(&want, lay)
		if show(got) != show(want) {
			t.Errorf("behind list %d of what Of tells: %s, not %s", at, show(got), show(want))
		}
	}
}

// P14.2: what Back tells is new memory.
func TestBackNew(t *testing.T) {
	p := of("p#k a=1 b:2 'x br c=3 q _ / * / *")
	l := wantedOf(p)
	a, b := wish.Back(l), wish.Back(l)
	for i := range a {
		a[i] = in(static, "z", "z")
	}
	_ = append(a, of("'behind 'behind")...)
	if !slices.Equal(b, p) || show(l) != show(wantedOf(p)) {
		t.Errorf("Back shares what it told: %s, %s", shown(b), show(l))
	}
	spoil(l)
	if !slices.Equal(b, p) {
		t.Errorf("Back keeps what it was given: %s", shown(b))
	}
	_ = append(b, of("'behind")...)
	backs(t, wantedOf(p), p)
}

// R2: what is behind an argument isn't read, or written.
func TestBehind(t *testing.T) {
	p := of("p a=1 'x / b=1 / !")
	wants(t, p[:4], at(el("p", tx("x")), dyn("a", "1")))
	if !slices.Equal(p, of("p a=1 'x / b=1 / !")) {
		t.Errorf("Of writes behind: %s", shown(p))
	}
	refuses(t, p[:3], errOpen)
	attrs := []api.Attr{dyn("a", "1"), dyn("b", "2")}
	l := list(at(el("p", list(tx("x"), tx("y"))[:1]...), attrs[:1]...), tx("z"))
	backs(t, l[:1], of("p a=1 'x /"))
	counts(t, l[:1], 2)
	same(t, l[:1], list(at(el("p", tx("x")), dyn("a", "1"))), true)
	if show(l[1:2]) != show(list(tx("z"))) || attrs[1] != dyn("b", "2") || show(l[0].Kids[1:2]) != show(list(tx("y"))) {
		t.Error("Back, Count, or Same writes behind")
	}
}

// That nothing is kept from call to call, and that several calls at once have each its own answer.
func TestTwice(t *testing.T) {
	p, q := of("p#k a=1 br#k * / br#l *"), of("p#k b:1 'x 'y /")
	var together sync.WaitGroup
	for range 8 {
		together.Go(func() {
			for range 50 {
				wants(t, p, at(key(el("p", key(el("br"), "k"), all()), "k"), dyn("a", "1")), key(el("br"), "l"), all())
				refuses(t, of("p#k a=1"), errOpen)
				wants(t, nil)
				wants(t, q, at(key(el("p", tx("x"), tx("y")), "k"), sta("b", "1")))
				refuses(t, of("a=1"), errAttr)
			}
		})
	}
	together.Wait()
}

// P1: much of it, wide and deep.
func TestLong(t *testing.T) {
	refuses(t, slices.Repeat(of("p"), 1<<20), errLarge)
	refuses(t, []api.Ins{in(text, rep("x", 1<<20), "")}, errForm)
	wide := slices.Repeat(list(el("p", tx("x")), stays()), 1<<17)
	if n := wish.Count(wide); n != 1<<18 {
		t.Errorf("Count of a wide one: %d", n)
	}
	if n := len(wish.Back(wide)); n != 1<<19 {
		t.Errorf("Back of a wide one: %d", n)
	}
	var deep, other []wish.Want
	for range 1 << 16 {
		deep, other = list(tx("x"), el("p", deep...)), list(tx("x"), el("p", other...))
	}
	if n := wish.Count(deep); n != 1<<17 {
		t.Errorf("Count of a deep one: %d", n)
	}
	if p := wish.Back(deep); len(p) != 3<<16 || p[1<<17] != in(closes, "", "") || p[1<<17-1] != in(open, "p", "") {
		t.Errorf("Back of a deep one: %s", shown(p))
	}
	if !wish.Same(deep, other) || wish.Same(deep, other[1].Kids) {
		t.Error("Same of deep ones")
	}
}

// P1: a goal for go test -fuzz; its seeds run in every test.
func FuzzWish(f *testing.F) {
	const letters = "pqPkbB/aAcC'*_!"
	meant := of("p q p#k q#l br br#k / a=1 a:1 b=1 c:1 'x * _ !")
	for _, s := range []string{"", "/", "p/", "PaA", "p*//", "pac'/", "pppppppp////////", "paCc/B*", "P/B", "_*'", "Pa'bB/kC__/*", strings.Repeat("_", 121), "ppppppppB*////////"} {
		f.Add(s, 0, "", "")
	}
	f.Add("px/", 1, "p", "k")
	f.Add("p'xb/", 3, "br", "k")
	f.Add("pkx'/", 6, "abcdefghijkl", "\n")
	f.Fuzz(func(t *testing.T, s string, n int, a, b string) {
		var p []api.Ins
		for i := range len(s) {
			at := strings.IndexByte(letters, s[i])
			if at < 0 {
				p = append(p, in(n, a, b))
			} else {
				p = append(p, meant[at])
			}
		}
		if !holds(t, p) {
			return
		}
		// Of what is wanted, something, or all, of other fields, too.
		l := append(wantedOf(p), wish.Want{Kind: n, Tag: a, Key: b, Text: s, Attrs: []api.Attr{dyn(a, b), sta(b, a)}, Kids: wantedOf(p)})
		backs(t, l, programOf(l))
		same(t, l, ownWants(l), true)
		same(t, l, l[:len(l)-1], false)
	})
}
