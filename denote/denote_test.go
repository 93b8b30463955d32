package denote_test

import (
	"fmt"
	"math"
	"math/rand"
	"slices"
	"strings"
	"sync"
	"testing"

	"placket/api"
	"placket/denote"
	"placket/tree"
	"placket/wish"
)

// The kinds of what is wanted, by their numbers, as the document tells them.
const (
	elem  = 1
	words = 2
	next  = 3
	rest  = 4
)

func isVoid(tag string) bool { return slices.Contains([]string{"br", "hr", "img", "input"}, tag) }

// wants are what words want: p, or p#k, an element, that / ends; br, or br#k, a void one; a=1 an attribute of what stands ahead, a:1 a static one; 'x a text; _ that the next node stays; * that all stay.
func wants(s string) []wish.Want {
	places := [][]wish.Want{nil}
	for _, word := range strings.Fields(s) {
		here := &places[len(places)-1]
		switch w, a, isAttr := one(word); {
		case word == "/":
			done := *here
			places = places[:len(places)-1]
			above := places[len(places)-1]
			above[len(above)-1].Kids = done
		case isAttr && len(*here) > 0:
			last := &(*here)[len(*here)-1]
			last.Attrs = append(last.Attrs, a)
		case isAttr:
			above := places[len(places)-2]
			last := &above[len(above)-1]
			last.Attrs = append(last.Attrs, a)
		default:
			*here = append(*here, w)
			if w.Kind == elem && !isVoid(w.Tag) {
				places = append(places, nil)
			}
		}
	}
	if len(places) != 1 {
		panic("something isn't ended: " + s)
	}
	return places[0]
}

// one is what one word wants, or the attribute that it tells.
func one(word string) (wish.Want, api.Attr, bool) {
	switch {
	case word[0] == '\'':
		return wish.Want{Kind: words, Text: word[1:]}, api.Attr{}, false
	case word == "_":
		return wish.Want{Kind: next}, api.Attr{}, false
	case word == "*":
		return wish.Want{Kind: rest}, api.Attr{}, false
	}
	if name, value, ok := strings.Cut(word, "="); ok {
		return wish.Want{}, api.Attr{Name: name, Value: value}, true
	}
	if name, value, ok := strings.Cut(word, ":"); ok {
		return wish.Want{}, api.Attr{Name: name, Value: value, Static: true}, true
	}
	tag, key, _ := strings.Cut(word, "#")
	return wish.Want{Kind: elem, Tag: tag, Key: key}, api.Attr{}, false
}

// grown are the trees that are just as what is wanted, attributes in their order.
func grown(l []wish.Want) []api.Tree {
	var told []api.Tree
	for _, w := range l {
		told = append(told, api.Tree{Tag: w.Tag, Key: w.Key, Text: w.Text, Attrs: slices.Clone(w.Attrs), Kids: grown(w.Kids)})
	}
	return told
}

// trees are those of the same words.
func trees(s string) []api.Tree { return grown(wants(s)) }

// show tells trees with all their fields; two are the same if they are shown so.
func show(l []api.Tree) string {
	var s strings.Builder
	showTo(&s, l)
	return s.String()
}

func showTo(s *strings.Builder, l []api.Tree) {
	for _, x := range l {
		fmt.Fprintf(s, "(%q %q %q", x.Tag, x.Key, x.Text)
		for _, a := range x.Attrs {
			fmt.Fprintf(s, " %q=%q %v", a.Name, a.Value, a.Static)
		}
		s.WriteString(" in it")
		showTo(s, x.Kids)
		s.WriteString(")")
	}
}

func showWants(l []wish.Want) string { return fmt.Sprintf("%v", l) }
func short(s string) string          { return s[:min(len(s), 1500)] }
func same(a, b []api.Tree) bool      { return slices.EqualFunc(a, b, tree.Same) }

// own and ownWants copy all of it, so that no later change is a copy's.
func own(l []api.Tree) []api.Tree {
	var told []api.Tree
	for _, x := range l {
		x.Attrs, x.Kids = slices.Clone(x.Attrs), own(x.Kids)
		told = append(told, x)
	}
	return told
}

func ownWants(l []wish.Want) []wish.Want {
	var told []wish.Want
	for _, w := range l {
		w.Attrs, w.Kids = slices.Clone(w.Attrs), ownWants(w.Kids)
		told = append(told, w)
	}
	return told
}

func agree(t *testing.T, want []wish.Want, old, told []api.Tree) {
	t.Helper()
	wasWant, wasOld := ownWants(want), own(old)
	if got := denote.Of(want, old); !same(got, told) {
		t.Errorf("Of(%s, %s): %s, not %s", short(showWants(want)), short(show(old)), short(show(got)), short(show(told)))
	}
	if !wish.Same(want, wasWant) || !same(old, wasOld) {
		t.Errorf("Of(%s, %s) changed what was handed in: %s, %s", short(showWants(wasWant)), short(show(wasOld)), short(showWants(want)), short(show(old)))
	}
}

// P17.1: the chapter's example.
func TestExample(t *testing.T) {
	agree(t, wants("'b"), trees("'a"), trees("'b"))
}

// P17.1: each kind of what is wanted, of trees that it takes and of others.
func TestKinds(t *testing.T) {
	for _, c := range []struct{ want, old, told string }{
		{"", "", ""},
		{"", "'a p / br", ""},
		// A text, of that text, whatever it takes.
		{"'b", "", "'b"},
		{"'b", "p 'a /", "'b"},
		{"'", "'a", "'"},
		{"'a 'b 'c", "'x 'y", "'a 'b 'c"},
		{"'a", "'x 'y 'z", "'a"},
		// An element that takes none: new.
		{"p /", "", "p /"},
		{"p#k /", "", "p#k /"},
		{"br", "", "br"},
		{"br#k a=1", "'x", "br#k a=1"},
		{"p /", "q a=1 'x /", "p /"},
		{"p /", "p#k a:1 'x /", "p /"},
		{"p#k /", "p a:1 'x /", "p#k /"},
		{"p#k /", "p#l a:1 'x /", "p#k /"},
		{"p#k /", "q#k a:1 'x /", "p#k /"},
		{"p /", "'x p a:1 'y /", "p /"},
		{"p 'a q 'b / br /", "", "p 'a q 'b / br /"},
		{"p q r 'x / / /", "q r a:1 'y / /", "p q r 'x / / /"},
		// An element that takes a tree: what it has that isn't static, and what is in it, goes.
		{"p /", "p /", "p /"},
		{"p /", "p a=1 'x q / /", "p /"},
		{"p /", "p a:1 'x /", "p a:1 /"},
		{"p 'y /", "p a:1 'x /", "p a:1 'y /"},
		{"br", "br a:1 b=2", "br a:1"},
		{"p#k 'y /", "'x q / p#l b:1 / p#k a:1 'x /", "p#k a:1 'y /"},
		{"br#k", "'x br b:1 br#k a:1", "br#k a:1"},
		{"p#b / p#a /", "p#a a:1 / p#b a:2 /", "p#b a:2 / p#a a:1 /"},
		{"p#k /", "p#k a:1 / p#k a:2 /", "p#k a:1 /"},
		{"p / p / p /", "p a:1 / p a:2 /", "p a:1 / p a:2 / p /"},
		{"p / q / p /", "p a:1 / p a:2 /", "p a:1 / q / p a:2 /"},
		{"p q 'b / /", "p a:1 q b:2 'a / 'c /", "p a:1 q b:2 'b / /"},
		// That the next node stays: that tree as it is, if there is one.
		{"_", "", ""},
		{"_", "'x", "'x"},
		{"_", "p#k a=1 b:2 'x q br / /", "p#k a=1 b:2 'x q br / /"},
		{"_", "br a=1 'x", "br a=1"},
		{"_ _", "p a=1 / 'x q /", "p a=1 / 'x"},
		{"_ _ _", "p a=1 / 'x", "p a=1 / 'x"},
		{"_ 'b _", "'x 'y", "'x 'b"},
		{"'b _", "p 'x /", "'b p 'x /"},
		{"p#k / _ _", "'x p#k a:1 b=1 'y /", "p#k a:1 / 'x"},
		{"_ p /", "q / p a:1 b=1 'x /", "q / p a:1 /"},
		// That all stay: those that are left, as they are, in order.
		{"*", "", ""},
		{"*", "'x p#k a=1 b:2 'y / br", "'x p#k a=1 b:2 'y / br"},
		{"p / *", "p a=1 / 'x p a=1 'y /", "p / 'x p a=1 'y /"},
		{"q / *", "p a=1 / 'x", "q / p a=1 / 'x"},
		{"p#c / p#a / *", "p#a / 'x p#b a=1 'y / p#c / br b=1", "p#c / p#a / 'x p#b a=1 'y / br b=1"},
		{"_ *", "'x p a=1 / 'y", "'x p a=1 / 'y"},
		{"'b *", "'x 'y", "'b 'y"},
		// The same within, of the Kids of what is taken alone.
		{"p _ / _", "p q a=1 / 'x / 'y", "p q a=1 / / 'y"},
		{"p * / _", "p q a=1 / 'x / 'y", "p q a=1 / 'x / 'y"},
		{"p _ 'b * /", "p#k a=1 / 'x", "p 'b /"},
		{"p * / p * /", "p 'x / p 'y /", "p 'x / p 'y /"},
		{"q * / p * /", "p 'x /", "q / p 'x /"},
		{"p q#k / * /", "p 'x q#k a:1 'y / 'z / q#k b:1 /", "p q#k a:1 / 'x 'z /"},
		{"p q _ r / / /", "p q 'x r a:1 / / /", "p q 'x r a:1 / / /"},
		{"p q _ r / / /", "p r / q 'x r a:1 / / /", "p q r / / /"},
	} {
		agree(t, wants(c.want), trees(c.old), trees(c.told))
		// Within an element that is taken it is the same.
		agree(t, []wish.Want{{Kind: elem, Tag: "div", Kids: wants(c.want)}}, []api.Tree{{Tag: "div", Kids: trees(c.old)}}, []api.Tree{{Tag: "div", Kids: trees(c.told)}})
	}
}

// P17.1: attributes: of an element that takes a tree joined, of one that takes none the static ones ahead of the others.
func TestAttrs(t *testing.T) {
	for _, c := range []struct{ want, old, joined, made string }{
		{"", "", "", ""},
		{"", "a=1", "", ""},
		{"", "a:1", "a:1", ""},
		{"a=1", "", "a=1", "a=1"},
		{"a:1", "", "", "a:1"},
		{"a=1 b:2 c=3 d:4", "", "a=1 c=3", "b:2 d:4 a=1 c=3"},
		{"a=2", "a=1", "a=2", "a=2"},
		{"a=2", "a:1", "a:1", "a=2"},
		{"a:2", "a:1", "a:1", "a:2"},
		{"a:2", "a=1", "", "a:2"},
		{"b=2 a=1", "a=1 b=2", "b=2 a=1", "b=2 a=1"},
		{"c=1 a=2 d=3", "x=1 b:1 y=2 a:1", "b:1 a:1 c=1 d=3", "c=1 a=2 d=3"},
		{"c=3", "a:1 b=2", "a:1 c=3", "c=3"},
		{"i=1 j=2 k=3", "a:1 b:2 c:3 d:4 e:5 f:6 g:7", "a:1 b:2 c:3 d:4 e:5 f:6 g:7 i=1", "i=1 j=2 k=3"},
		{"i=1", "a:1 b:2 c:3 d:4 e:5 f:6 g:7 h:8", "a:1 b:2 c:3 d:4 e:5 f:6 g:7 h:8", "i=1"},
		{"a=1 b=2 c=3 d=4 e=5 f=6 g=7 h=8", "a:9 h=1", "a:9 b=2 c=3 d=4 e=5 f=6 g=7 h=8", "a=1 b=2 c=3 d=4 e=5 f=6 g=7 h=8"},
		{"a=1 b=2 c=3 d=4 e=5 f=6 g=7 h=8", "x:9", "x:9 a=1 b=2 c=3 d=4 e=5 f=6 g=7", "a=1 b=2 c=3 d=4 e=5 f=6 g=7 h=8"},
	} {
		for _, words := range []string{"p # 'x /", "p#k # 'x /", "br #", "br#k #", "div p # / /", "div 'x br # /"} {
			of := func(attrs string) string { return strings.ReplaceAll(words, " #", " "+attrs) }
			agree(t, wants(of(c.want)), trees(of(c.old)), trees(of(c.joined)))
			agree(t, wants(of(c.want)), nil, trees(of(c.made)))
			agree(t, wants(of(c.want)), trees("img "+c.old), trees(of(c.made)))
			// What stays keeps its own, in their order.
			agree(t, wants("_"), trees(of(c.old)), trees(of(c.old)))
			agree(t, wants("*"), trees(of(c.old)+" 'y"), trees(of(c.old)+" 'y"))
		}
	}
}

// P17.1: the texts, keys, and values at their edges are told as they stand.
func TestEdges(t *testing.T) {
	for _, s := range []string{"", " ", "~", "  x ", "<p>&\"", "0", "#", strings.Repeat("x", 59), strings.Repeat("<", 60)} {
		told := []api.Tree{{Text: s}, {Tag: "p", Key: s, Attrs: []api.Attr{{Name: "b", Value: s, Static: true}, {Name: "a", Value: s}}, Kids: []api.Tree{{Text: s}, {Tag: "br", Key: s}}}}
		want := []wish.Want{{Kind: words, Text: s}, {Kind: elem, Tag: "p", Key: s, Attrs: told[1].Attrs, Kids: []wish.Want{{Kind: words, Text: s}, {Kind: elem, Tag: "br", Key: s}}}}
		agree(t, want, nil, told)
		agree(t, want, told, told)
		agree(t, wants("_ _"), told, told)
		agree(t, wants("*"), told, told)
	}
}

// P1: what no program wants, and trees that may not be, end in an answer, too: kinds that there aren't come to nothing; behind that all stay nothing is left; of what is taken only what the chapter names counts.
func TestWrong(t *testing.T) {
	for _, kind := range []int{0, 5, 6, -1, -2, -3, -4, 257, 258, 1 << 32, 1<<32 + 1, 1<<32 + 3, math.MaxInt, math.MinInt} {
		odd := wish.Want{Kind: kind, Tag: "p", Text: "x", Attrs: []api.Attr{{Name: "a"}}, Kids: wants("'x *")}
		agree(t, []wish.Want{odd}, trees("p / 'x"), nil)
		agree(t, slices.Concat([]wish.Want{odd}, wants("p /"), []wish.Want{odd}, wants("*")), trees("p a:1 / 'x"), trees("p a:1 / 'x"))
		agree(t, []wish.Want{{Kind: elem, Tag: "p", Kids: []wish.Want{odd}}}, trees("p 'x /"), trees("p /"))
	}
	agree(t, wants("* *"), trees("p / 'x"), trees("p / 'x"))
	agree(t, wants("p / * 'y * p / _ p#k / *"), trees("p a:1 / 'x p#k a:1 / p b:2 /"), trees("p a:1 / 'x p#k a:1 / p b:2 / 'y p / p#k /"))
	agree(t, wants("p * _ * / *"), trees("p 'x 'y / 'z"), trees("p 'x 'y / 'z"))
	agree(t, wants("p#k / p#k /"), trees("p#k a:1 /"), trees("p#k a:1 / p#k /"))

	// A text with all that a text may not have, and an element of a text.
	odd := []api.Tree{{Text: "x", Key: "k", Attrs: []api.Attr{{Name: "a", Static: true}}, Kids: trees("'y br")}, {Tag: "p", Text: "x", Kids: trees("'y")}, {Tag: "br", Kids: trees("'y")}, {Tag: "<", Key: "\xff\n"}}
	agree(t, wants("_ _ _ _ _"), odd, odd)
	agree(t, wants("*"), odd, odd)
	agree(t, wants("'z p _ / br"), odd, trees("'z p 'y / br"))
	agree(t, []wish.Want{{Kind: elem, Tag: "<", Key: "\xff\n", Text: "x", Kids: wants("'y")}}, odd, []api.Tree{{Tag: "<", Key: "\xff\n", Kids: trees("'y")}})
	agree(t, []wish.Want{{Kind: words, Tag: "p", Key: "k", Text: "x", Attrs: odd[0].Attrs, Kids: wants("'y")}}, nil, trees("'x"))
	agree(t, []wish.Want{{Kind: next, Tag: "p", Key: "k", Text: "x", Attrs: odd[0].Attrs, Kids: wants("'y")}}, trees("'z 'y"), trees("'z"))
	agree(t, []wish.Want{{Kind: rest, Tag: "p", Key: "k", Text: "x", Attrs: odd[0].Attrs, Kids: wants("'y")}}, trees("'z 'y"), trees("'z 'y"))
	agree(t, []wish.Want{{Kind: elem, Key: "k", Kids: wants("_ 'y")}}, odd, []api.Tree{{Key: "k", Kids: trees("'y")}})
	agree(t, []wish.Want{{Kind: elem, Tag: "br", Kids: wants("_ 'x")}}, odd[2:], []api.Tree{{Tag: "br", Kids: trees("'y 'x")}})
	agree(t, wants("p a=1 a=2 a:3 /"), nil, trees("p a:3 a=1 a=2 /"))
	agree(t, []wish.Want{}, []api.Tree{}, nil)
}

// plain is the chapter's words, told another way: a list of what is left, looked through from its front.
func plain(want []wish.Want, old []api.Tree) []api.Tree {
	left := slices.Clone(old)
	var told []api.Tree
	for _, w := range want {
		in := taken(w, left)
		switch w.Kind {
		case words:
			told = append(told, api.Tree{Text: w.Text})
		case elem:
			told = append(told, api.Tree{Tag: w.Tag, Key: w.Key})
			was, x := api.Tree{}, &told[len(told)-1]
			if in >= 0 {
				was = left[in]
				x.Attrs = joined(was.Attrs, w.Attrs)
			} else {
				x.Attrs = slices.Clone(w.Attrs)
				slices.SortStableFunc(x.Attrs, func(a, b api.Attr) int { return strings.Compare(fmt.Sprint(b.Static), fmt.Sprint(a.Static)) })
			}
			x.Kids = plain(w.Kids, was.Kids)
		case next:
			told = append(told, left[:min(1, len(left))]...)
		case rest:
			told, left = append(told, left...), nil
		}
		if in >= 0 {
			left = slices.Delete(left, in, in+1)
		}
	}
	return told
}

// taken is where, of what is left, what is wanted takes something, or -1.
func taken(w wish.Want, left []api.Tree) int {
	n := len(left)
	if w.Kind != elem || w.Key == "" {
		n = min(n, 1)
	}
	return slices.IndexFunc(left[:n], func(x api.Tree) bool {
		switch w.Kind {
		case words:
			return x.Tag == ""
		case elem:
			return x.Tag != "" && x.Tag == w.Tag && x.Key == w.Key
		}
		return w.Kind == next
	})
}

// joined goes over both lists at once.
func joined(old, want []api.Attr) []api.Attr {
	var l []api.Attr
	for i, a := range slices.Concat(old, want) {
		isOld := i < len(old)
		known := slices.ContainsFunc(l, func(b api.Attr) bool { return b.Name == a.Name })
		if isOld && a.Static || !isOld && !a.Static && !known {
			l = append(l, a)
		}
	}
	return l[:min(8, len(l))]
}

// each calls do with all lists of up to n of l.
func each[T any](l []T, n int, do func([]T)) {
	lists := [][]T{nil}
	for ; n >= 0; n-- {
		var longer [][]T
		for _, x := range lists {
			do(x)
			for _, y := range l {
				longer = append(longer, append(slices.Clip(x), y))
			}
		}
		lists = longer
	}
}

// held holds what is told against the plain answer, and against what follows.
func held(t *testing.T, want []wish.Want, old []api.Tree) {
	t.Helper()
	got := denote.Of(want, old)
	if told := plain(want, old); !same(got, told) {
		t.Fatalf("Of(%s, %s): %s, not %s", short(showWants(want)), short(show(old)), short(show(got)), short(show(told)))
	}
	program := wish.Back(want)
	if meant, err := wish.Of(program); err != nil || !wish.Same(meant, want) || stays(want) {
		return
	}
	if !same(bare(got), bare(grown(want))) {
		t.Fatalf("Of(%s, %s): %s: not what is wanted", short(showWants(want)), short(show(old)), short(show(got)))
	}
	if again := denote.Of(want, got); !same(again, got) {
		t.Fatalf("Of(%s, %s): %s, and again %s", short(showWants(want)), short(show(old)), short(show(got)), short(show(again)))
	}
}

// stays tells whether it is wanted somewhere that something stays.
func stays(l []wish.Want) bool {
	return slices.ContainsFunc(l, func(w wish.Want) bool { return w.Kind == next || w.Kind == rest || stays(w.Kids) })
}

// bare are trees without their attributes.
func bare(l []api.Tree) []api.Tree {
	var told []api.Tree
	for _, x := range l {
		told = append(told, api.Tree{Tag: x.Tag, Key: x.Key, Text: x.Text, Kids: bare(x.Kids)})
	}
	return told
}

// P17.1, P17.3: all short lists of few trees and of few things wanted.
func TestAllSmall(t *testing.T) {
	n := 0
	each(trees("'x p a=1 'y / p#k a:1 p / / q b:2 /"), 3, func(old []api.Tree) {
		each(wants("'z p b=3 'y _ / p#k a=2 c:4 p / * / q _ * / _ *"), 3, func(want []wish.Want) {
			held(t, want, old)
			n++
		})
	})
	if n != 85*259 {
		t.Errorf("%d", n)
	}
	each(trees("'x p#k a:1 / p#l 'y /"), 4, func(old []api.Tree) {
		each(wants("p#k a=2 b=2 / p#l 'z / 'x"), 4, func(want []wish.Want) { held(t, want, old) })
	})
	// One level below what is always taken, and what never is.
	each(trees("'x p a=1 / p#k 'y /"), 2, func(old []api.Tree) {
		each(wants("'z p b=3 / p#k p / / _ *"), 3, func(want []wish.Want) {
			for _, tag := range []string{"div", "em"} {
				held(t, []wish.Want{{Kind: elem, Tag: "div", Kids: want}, {Kind: next}}, []api.Tree{{Tag: tag, Kids: old}})
			}
		})
	})
}

// P17.1, P17.3: all lists of few attributes, of a tree and of a program.
func TestAllAttrs(t *testing.T) {
	l := []api.Attr{{Name: "a", Value: "1"}, {Name: "a", Value: "2", Static: true}, {Name: "b", Value: "3"}, {Name: "b", Value: "4", Static: true}, {Name: "c"}}
	each(l, 3, func(old []api.Attr) {
		each(l, 3, func(want []api.Attr) {
			held(t, []wish.Want{{Kind: elem, Tag: "p", Attrs: want}, {Kind: elem, Tag: "q", Attrs: want}}, []api.Tree{{Tag: "p", Attrs: old}})
		})
	})
}

// someTrees and someWants are made of what is picked, those that may be and those that may not.
var (
	tags  = []string{"p", "p", "p", "q", "br", "q"}
	named = []string{"", "", "k", "l", "m", ""}
)

func someAttrs(pick func(n int) int) []api.Attr {
	var l []api.Attr
	for range []int{0, 1, 2, 3, 6, 10}[pick(6)] {
		l = append(l, api.Attr{Name: string(rune('a' + pick(10))), Value: string(rune('0' + pick(10))), Static: pick(2) == 0})
	}
	return l
}

func someTrees(depth int, pick func(n int) int) []api.Tree {
	var l []api.Tree
	for range pick(6) {
		if pick(3) == 0 {
			l = append(l, api.Tree{Text: string(rune('a' + pick(5)))})
			continue
		}
		x := api.Tree{Tag: tags[pick(6)], Key: named[pick(6)], Attrs: someAttrs(pick)}
		if depth > 0 && x.Tag != "br" {
			x.Kids = someTrees(depth-1, pick)
		}
		l = append(l, x)
	}
	return l
}

func someWants(depth int, pick func(n int) int) []wish.Want {
	var l []wish.Want
	for range pick(6) {
		w := wish.Want{Kind: []int{elem, elem, elem, elem, elem, words, words, next, rest, pick(9) - 2}[pick(10)]}
		if w.Kind == words {
			w.Text = string(rune('a' + pick(5)))
		}
		if w.Kind == elem {
			w.Tag, w.Key, w.Attrs = tags[pick(6)], named[pick(6)], someAttrs(pick)
		}
		if w.Kind == elem && depth > 0 && w.Tag != "br" {
			w.Kids = someWants(depth-1, pick)
		}
		l = append(l, w)
	}
	return l
}

// mayBe makes of what is wanted what a program may want: no key twice, no attribute twice, nothing behind that all stay; without what stays, if that isn't asked for.
func mayBe(l []wish.Want, staying bool) []wish.Want {
	var told []wish.Want
	keys := map[string]int{}
	for _, w := range l {
		if keys[w.Key]++; w.Key != "" && keys[w.Key] > 1 {
			w.Key = ""
		}
		var attrs []api.Attr
		for _, a := range w.Attrs[:min(8, len(w.Attrs))] {
			if !slices.ContainsFunc(attrs, func(b api.Attr) bool { return a.Name == b.Name }) {
				attrs = append(attrs, a)
			}
		}
		w.Attrs, w.Kids = attrs, mayBe(w.Kids, staying)
		if w.Kind == elem || w.Kind == words || staying && (w.Kind == next || w.Kind == rest) {
			told = append(told, w)
		}
		if staying && w.Kind == rest {
			break
		}
	}
	return told
}

// run holds what is picked as it is, and what programs may want of it, one behind the other, on the outcome of the one ahead.
func run(t *testing.T, pick func(n int) int) (programs, kept int) {
	t.Helper()
	old := someTrees(3, pick)
	held(t, someWants(3, pick), old)
	for _, staying := range []bool{true, false, true, false} {
		want := mayBe(someWants(3, pick), staying)
		wasWant, wasOld := ownWants(want), own(old)
		held(t, want, old)
		if !wish.Same(want, wasWant) || !same(old, wasOld) {
			t.Fatalf("Of(%s, %s) changed what was handed in: %s, %s", showWants(wasWant), show(wasOld), showWants(want), show(old))
		}
		if _, err := wish.Of(wish.Back(want)); err == nil {
			programs++
		}
		if stays(want) {
			kept++
		}
		old = denote.Of(want, old)
	}
	return programs, kept
}

// P17.1, P17.3: by chance, by a fixed seed.
func TestByChance(t *testing.T) {
	r := rand.New(rand.NewSource(17))
	programs, kept := 0, 0
	for range 8000 {
		p, k := run(t, r.Intn)
		programs, kept = programs+p, kept+k
	}
	if programs < 10000 || kept < 10000 {
		t.Errorf("%d programs, %d with what stays: too few", programs, kept)
	}
}

// T2: of trees that may be, what a program comes to may be, so that a document can be it.
func TestMayBe(t *testing.T) {
	r := rand.New(rand.NewSource(173))
	n := 0
	for range 20000 {
		old, want := someTrees(2, r.Intn), mayBe(someWants(2, r.Intn), true)
		if _, err := wish.Of(wish.Back(want)); err != nil || !slices.ContainsFunc(old, tree.May) {
			continue
		}
		old = slices.DeleteFunc(old, func(x api.Tree) bool { return !tree.May(x) })
		n++
		for _, x := range denote.Of(want, old) {
			if !tree.May(x) {
				t.Fatalf("Of(%s, %s): %s may not be", showWants(want), show(old), show([]api.Tree{x}))
			}
		}
	}
	if n < 5000 {
		t.Errorf("%d: too few", n)
	}
}

// P17.1: what layer 14 tells of programs.
func TestPrograms(t *testing.T) {
	want, err := wish.Of([]api.Ins{{Op: 1, A: "p", B: "k"}, {Op: 5, A: "a", B: "1"}, {Op: 6, A: "b", B: "2"}, {Op: 4, A: "x"}, {Op: 8}, {Op: 2}, {Op: 4, A: "y"}, {Op: 3, A: "br"}, {Op: 7}})
	if err != nil {
		t.Fatal(err)
	}
	agree(t, want, nil, trees("p#k b:2 a=1 'x / 'y br"))
	agree(t, want, trees("'0 br c:3 d=3 p e=4 / p#k c:3 d=3 '1 q a=5 / '2 / '3"), trees("p#k c:3 a=1 'x q a=5 / / 'y br c:3 p e=4 / '3"))
}

// spoil changes all of some trees, and what there is room for behind them.
func spoil(l []api.Tree) {
	for i := range l {
		spoil(l[i].Kids)
		attrs, kids := l[i].Attrs, l[i].Kids
		for j := range attrs {
			attrs[j] = api.Attr{Name: "spoiled"}
		}
		_ = append(attrs, api.Attr{Name: "behind"}, api.Attr{Name: "behind"})
		_ = append(kids, api.Tree{Tag: "behind"}, api.Tree{Tag: "behind"})
	}
	for i := range l {
		l[i] = api.Tree{Tag: "spoiled"}
	}
	_ = append(l, api.Tree{Tag: "behind"}, api.Tree{Tag: "behind"})
}

func spoilWants(l []wish.Want) {
	for i := range l {
		spoilWants(l[i].Kids)
		for j := range l[i].Attrs {
			l[i].Attrs[j] = api.Attr{Name: "spoiled"}
		}
		l[i] = wish.Want{Kind: elem, Tag: "spoiled"}
	}
}

const (
	oldWords  = "p#k a:1 b:2 c=3 'x q d=1 'y / q#l d:1 'z / / p d=1 e:1 f=1 q r g=1 'z / 'x / 'y 'x / 'y br h:1 q h=1 / 'x br h=1 j:1"
	wantWords = "p#k c=1 d=2 e=3 _ q f=1 / * / p x=1 q _ r / / _ 'z / 'x q y=1 z:1 'x _ / p v=1 w:1 / _ *"
)

// P17.2: what is told is new memory: writing into it, or into what was handed in, changes nothing else, nor a later answer.
func TestNew(t *testing.T) {
	old, want := trees(oldWords), wants(wantWords)
	told := plain(wants(wantWords), trees(oldWords))
	first, again := denote.Of(want, old), denote.Of(want, old)
	if !same(first, told) {
		t.Fatalf("%s, not %s", show(first), show(told))
	}
	spoil(first)
	if !same(again, told) || !same(old, trees(oldWords)) || !wish.Same(want, wants(wantWords)) {
		t.Errorf("a change of what is told changes %s, %s, %s", show(again), show(old), showWants(want))
	}
	spoil(old)
	spoilWants(want)
	if !same(again, told) {
		t.Errorf("a change of what was handed in changes what was told: %s", show(again))
	}
	// Room behind what was handed in is neither read nor written.
	room, wantRoom := trees("p a:1 / 'x 'y"), wants("p / _ 'z")
	room[0].Attrs = append(make([]api.Attr, 0, 9), room[0].Attrs...)
	agree(t, wantRoom[:1], room[:1], trees("p a:1 /"))
	agree(t, wants("p / 'z _"), room[:1], trees("p a:1 / 'z"))
	spoil(denote.Of(wants("_ *"), room[:2]))
	if !same(room, trees("p a:1 / 'x 'y")) || !wish.Same(wantRoom, wants("p / _ 'z")) || room[0].Attrs[:2][1] != (api.Attr{}) {
		t.Errorf("changed behind what was handed in: %s", show(room))
	}
}

// lists calls do with each list of trees, and of attributes, of an answer.
func lists(l *[]api.Tree, do func(kids *[]api.Tree, attrs *[]api.Attr)) {
	do(l, nil)
	for i := range *l {
		do(nil, &(*l)[i].Attrs)
		lists(&(*l)[i].Kids, do)
	}
}

// sharing are trees some of which share their lists, and lists of what is wanted of them, in which some is shared, too.
func sharing() ([]api.Tree, [][]wish.Want) {
	kids, attrs := trees("q a=1 b:1 'x / 'y"), append(make([]api.Attr, 0, 9), api.Attr{Name: "a", Static: true}, api.Attr{Name: "b"})
	old := slices.Concat(trees("'x p a:1 b=1 q / 'y / br"), []api.Tree{{Tag: "p", Attrs: attrs[:1], Kids: kids}, {Tag: "p", Attrs: attrs[:1], Kids: kids}, {Tag: "p", Attrs: attrs, Kids: kids[:1]}})
	inner := wants("q c=1 / _")
	within := []wish.Want{{Kind: elem, Tag: "p", Attrs: attrs, Kids: inner}, {Kind: elem, Tag: "p", Attrs: attrs, Kids: inner}, {Kind: elem, Tag: "p", Attrs: attrs[:1], Kids: inner}}
	return old, [][]wish.Want{wants("*"), wants("_ _ _ _ _ _"), wants("'x p x=1 y:1 * / *"), within, slices.Concat(within, wants("*")), slices.Concat(wants("_ _"), within), slices.Concat(wants("_ _ _"), within)}
}

// P17.2: no two lists of an answer share memory, nor the room behind them, nor with what was handed in, though that does.
func TestApart(t *testing.T) {
	old, asked := sharing()
	for i, want := range asked {
		n, all := 0, plain(want, own(old))
		lists(&all, func(*[]api.Tree, *[]api.Attr) { n++ })
		for which := range n {
			old, asked := sharing()
			got, told := denote.Of(asked[i], old), own(plain(want, own(old)))
			layOver(&got, which)
			layOver(&told, which)
			if !same(got, told) {
				t.Errorf("Of(%s): behind and over list %d: %s, not %s", showWants(want), which, show(got), show(told))
			}
			if was, wasAsked := sharing(); !same(old, was) || !wish.Same(asked[i], wasAsked[i]) {
				t.Errorf("Of(%s): behind and over list %d: what was handed in is changed: %s, %s", showWants(want), which, show(old), showWants(asked[i]))
			}
		}
	}
}

// layOver writes over one of the lists of an answer, and behind it.
func layOver(all *[]api.Tree, which int) {
	at := -1
	lists(all, func(kids *[]api.Tree, attrs *[]api.Attr) {
		if at++; at != which {
			return
		}
		if kids != nil {
			for i := range *kids {
				(*kids)[i].Key = "over"
			}
			*kids = append(*kids, api.Tree{Tag: "more"}, api.Tree{Tag: "most"})
			return
		}
		for i := range *attrs {
			(*attrs)[i].Value = "over"
		}
		*attrs = append(*attrs, api.Attr{Name: "more"}, api.Attr{Name: "most"})
	})
}

// P1: nothing is kept: done again, or between others, it is the same; goroutines may do it at once (go test -race sees more).
func TestTwice(t *testing.T) {
	old, want := trees(oldWords), wants(wantWords)
	told := plain(want, own(old))
	var together sync.WaitGroup
	for range 6 {
		together.Go(func() {
			for range 50 {
				denote.Of(wants("* p /"), old)
				denote.Of(want, nil)
				if got := denote.Of(want, old); !same(got, told) {
					t.Errorf("%s, not %s", show(got), show(told))
				}
			}
		})
	}
	together.Wait()
}

// P1: very many trees, and very much wanted, each way; very deep ones, and very long ones.
func TestGreat(t *testing.T) {
	const many = 1 << 17
	wide := slices.Repeat(trees("p#k a:1 b=1 'x /"), many)
	agreeGreat(t, "the next", slices.Repeat(wants("_"), many), wide, wide)
	agreeGreat(t, "all", wants("*"), wide, wide)
	agreeGreat(t, "one key", slices.Repeat(wants("p#k b=1 _ /"), many), wide, wide)
	agreeGreat(t, "of none", slices.Repeat(wants("p#l b=1 a:1 _ /"), many), wide, slices.Repeat(trees("p#l a:1 b=1 /"), many))
	agreeGreat(t, "nothing", nil, wide, nil)
	agreeGreat(t, "very much of nothing", slices.Repeat(wants("p 'x _ * / _ *"), many), nil, slices.Repeat(trees("p 'x /"), many))
	var back []wish.Want
	var apart []api.Tree
	for i := range many {
		apart = append(apart, api.Tree{Tag: "p", Key: fmt.Sprint(i), Attrs: []api.Attr{{Name: "a", Value: fmt.Sprint(i), Static: true}}})
		back = append(back, wish.Want{Kind: elem, Tag: "p", Key: fmt.Sprint(many - 1 - i)})
	}
	turned := slices.Clone(apart)
	slices.Reverse(turned)
	agreeGreat(t, "a key each, from behind", back, apart, turned)
	agreeGreat(t, "the last one, and all", slices.Concat(back[:1], wants("*")), apart, slices.Concat(turned[:1], apart[:many-1]))

	deep, deepWant := trees("'x"), wants("'x _")
	for range 1 << 16 {
		deep, deepWant = []api.Tree{{Tag: "p", Kids: deep}}, []wish.Want{{Kind: elem, Tag: "p", Kids: deepWant}}
	}
	agreeGreat(t, "deep, of as deep ones", deepWant, deep, deep)
	agreeGreat(t, "deep, of nothing", deepWant, nil, deep)
	agreeGreat(t, "deep, as it is", wants("_"), deep, deep)
	agreeGreat(t, "deep, kept", wants("*"), deep, deep)
	long := strings.Repeat("k", 1<<22)
	agreeGreat(t, "long", []wish.Want{{Kind: elem, Tag: long, Key: long}, {Kind: words, Text: long}}, []api.Tree{{Tag: long, Key: long[1:]}, {Tag: long, Key: long, Kids: deep}}, []api.Tree{{Tag: long, Key: long}, {Text: long}})
	attrs := slices.Repeat([]api.Attr{{Name: "a", Value: "1"}, {Name: "b", Static: true}}, many)
	agreeGreat(t, "very many attributes", []wish.Want{{Kind: elem, Tag: "p", Attrs: attrs}, {Kind: next}}, []api.Tree{{Tag: "p"}, {Tag: "q", Attrs: attrs}}, []api.Tree{{Tag: "p", Attrs: attrs[:1]}, {Tag: "q", Attrs: attrs}})
}

// agreeGreat is agree, but tells little of what is too much to be told.
func agreeGreat(t *testing.T, what string, want []wish.Want, old, told []api.Tree) {
	t.Helper()
	if got := denote.Of(want, old); !same(got, told) {
		t.Errorf("%s: %d of %d", what, len(got), len(told))
	}
}

// P1: a goal for go test -fuzz; its seeds run in every test. Each byte picks something.
func FuzzDenote(f *testing.F) {
	for _, s := range []string{"", strings.Repeat("\x05\x01\x02\x00\x03", 60), strings.Repeat("\x03\x01\x00\x02\x04\x01\x05", 90), strings.Repeat("\x02\x02\x01\x03", 200)} {
		f.Add([]byte(s))
	}
	f.Fuzz(func(t *testing.T, b []byte) {
		run(t, func(n int) int {
			if len(b) == 0 {
				return 0
			}
			x := int(b[0]) % n
			b = b[1:]
			return x
		})
	})
}
