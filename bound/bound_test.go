package bound_test

import (
	"fmt"
	"math"
	"math/rand"
	"slices"
	"strings"
	"sync"
	"testing"

	"placket/api"
	"placket/attr"
	"placket/bound"
	"placket/denote"
	"placket/match"
	"placket/tree"
	"placket/wish"
)

// The kinds of what is wanted, by their numbers, as the document tells them.
const (
	elem  = 1
	words = 2
	next  = 3
	rest  = 4
)

// What is wanted.
func tx(s string) wish.Want { return wish.Want{Kind: words, Text: s} }
func stays() wish.Want      { return wish.Want{Kind: next} }
func all() wish.Want        { return wish.Want{Kind: rest} }
func el(tag string, kids ...wish.Want) wish.Want {
	return wish.Want{Kind: elem, Tag: tag, Kids: kids}
}
func key(w wish.Want, key string) wish.Want { w.Key = key; return w }
func at(w wish.Want, names string) wish.Want {
	for i, name := range strings.Fields(names) {
		w.Attrs = append(w.Attrs, api.Attr{Name: name, Value: name, Static: i%2 == 1})
	}
	return w
}
func list(l ...wish.Want) []wish.Want { return l }

func ownWants(l []wish.Want) []wish.Want {
	var own []wish.Want
	for _, w := range l {
		w.Attrs, w.Kids = slices.Clone(w.Attrs), ownWants(w.Kids)
		own = append(own, w)
	}
	return own
}

func show(l []wish.Want) string {
	s := fmt.Sprintf("%v", l)
	return s[:min(len(s), 1500)]
}

// agree holds both answers of what is wanted, by how many nodes may be made.
func agree(t *testing.T, want []wish.Want, nodes int) {
	t.Helper()
	was := ownWants(want)
	if got := bound.Nodes(want); got != nodes {
		t.Errorf("Nodes(%s): %d, not %d", show(want), got, nodes)
	}
	for _, c := range [][2]int{{0, 1}, {1, 3}, {3, 7}, {200, 401}, {-1, 1}, {math.MinInt, 1}} {
		if got := bound.Changes(want, c[0]); got != 4*nodes+c[1] {
			t.Errorf("Changes(%s, %d): %d, not %d", show(want), c[0], got, 4*nodes+c[1])
		}
	}
	if !wish.Same(want, was) {
		t.Errorf("%s is changed to %s", show(was), show(want))
	}
}

// P18.1: the chapter's example.
func TestExample(t *testing.T) {
	if n, c := bound.Nodes(nil), bound.Changes(nil, 3); n != 0 || c != 7 {
		t.Errorf("nothing wanted, 3 old: %d, %d, not 0, 7", n, c)
	}
}

// P18.1: each element and each text, at all depths, may be made, and nothing else.
func TestNodes(t *testing.T) {
	for _, c := range []struct {
		want  []wish.Want
		nodes int
	}{
		{nil, 0},
		{list(), 0},
		{list(tx("x")), 1},
		{list(tx("")), 1},
		{list(el("p")), 1},
		{list(el("br")), 1},
		{list(key(el("p"), "k")), 1},
		{list(key(el("br"), "k")), 1},
		{list(stays()), 0},
		{list(all()), 0},
		{list(stays(), stays(), all()), 0},
		// The same twice is two.
		{list(tx("x"), tx("x")), 2},
		{list(el("p"), el("p"), el("p")), 3},
		{list(el("p"), tx("x"), stays(), el("br"), all()), 3},
		// Attributes are none.
		{list(at(el("p"), "a b c d e f g h")), 1},
		{list(at(el("br"), "a"), at(el("p", at(el("q"), "b c"), tx("x")), "d")), 4},
		// What is wanted within.
		{list(el("p", tx("x"))), 2},
		{list(el("p", stays(), all())), 1},
		{list(el("p", el("p", el("p", el("p", el("p", el("p", el("p", el("p", tx("x"), el("br")))))))))), 10},
		{list(el("p", el("q", tx("x"), stays()), tx("y"), all()), el("br"), tx("")), 6},
		{list(el("p", tx("a")), el("p", tx("b"), tx("c")), el("p", el("q", tx("d"))), all()), 8},
	} {
		agree(t, c.want, c.nodes)
		agree(t, list(el("div", c.want...)), c.nodes+1)
		agree(t, list(tx("a"), key(el("div", c.want...), "k"), stays()), c.nodes+2)
		agree(t, slices.Concat(c.want, c.want, c.want), 3*c.nodes)
	}
	for n := range 121 {
		agree(t, slices.Repeat(list(tx("x")), n), n)
		agree(t, slices.Repeat(list(el("p", el("br"), stays())), n), 2*n)
	}
}

// P18.1: of old ones two each; below 0 they are none.
func TestOld(t *testing.T) {
	for _, c := range []struct{ old, twice int }{
		{math.MinInt, 0}, {math.MinInt + 1, 0}, {math.MinInt / 2, 0}, {math.MinInt/2 - 1, 0}, {-1 << 31, 0}, {-200, 0}, {-3, 0}, {-2, 0}, {-1, 0},
		{0, 0}, {1, 2}, {2, 4}, {3, 6}, {4, 8}, {5, 10}, {100, 200}, {199, 398}, {200, 400}, {201, 402}, {1000, 2000},
		{1<<31 - 1, 1<<32 - 2},
	} {
		for nodes := range 5 {
			for _, want := range [][]wish.Want{slices.Repeat(list(tx("x")), nodes), slices.Repeat(list(at(el("p", stays()), "a"), all()), nodes)} {
				if got := bound.Changes(want, c.old); got != 4*nodes+c.twice+1 {
					t.Errorf("Changes(%s, %d): %d, not %d", show(want), c.old, got, 4*nodes+c.twice+1)
				}
			}
		}
	}
	for old := -300; old <= 300; old++ {
		if got := bound.Changes(nil, old); got != max(0, old)+max(0, old)+1 {
			t.Errorf("Changes(nil, %d): %d", old, got)
		}
	}
}

// P18.1: what no program wants counts as layer 14 counts it: kinds that there aren't are none, nor is what is in them; Kids count of an element, also of a void one.
func TestWrong(t *testing.T) {
	for _, kind := range []int{0, -1, 5, 6, 7, 8, -4, 9, 257, 258, 1<<32 + 1, 1<<32 + 2, math.MinInt, math.MaxInt} {
		odd := wish.Want{Kind: kind, Tag: "p", Key: "k", Text: "x", Attrs: []api.Attr{{Name: "a"}}, Kids: list(el("p"), tx("x"))}
		agree(t, list(odd), 0)
		agree(t, list(tx("a"), odd, el("p", odd, tx("b"), odd), odd), 3)
	}
	for kind, nodes := range map[int]int{elem: 4, words: 1, next: 0, rest: 0} {
		agree(t, list(wish.Want{Kind: kind, Tag: "p", Key: "k", Text: "x", Attrs: []api.Attr{{Name: "a"}}, Kids: list(el("p", tx("x")), tx("y"))}), nodes)
	}
	agree(t, list(el("br", tx("x"), el("hr", tx("y")))), 4)
	agree(t, list(el(""), key(el("\xff\n"), strings.Repeat("k", 100)), tx(strings.Repeat("x", 100))), 3)
	agree(t, list(all(), tx("x"), all(), key(el("p"), "k"), key(el("p"), "k")), 3)
	// Room behind what is handed in isn't counted.
	room := list(el("p", tx("x"), tx("y")), tx("z"))
	room[0].Kids = room[0].Kids[:1]
	agree(t, room[:1], 2)
	agree(t, room[:0], 0)
}

// each calls do with all lists of up to n of l.
func each(l []wish.Want, n int, do func([]wish.Want)) {
	lists := [][]wish.Want{nil}
	for ; n >= 0; n-- {
		var longer [][]wish.Want
		for _, x := range lists {
			do(x)
			for _, y := range l {
				longer = append(longer, append(slices.Clip(x), y))
			}
		}
		lists = longer
	}
}

// makes counts, of the instructions that want it, those by which a node may be made.
func makes(want []wish.Want) int {
	n := 0
	for _, i := range wish.Back(want) {
		if i.Op == api.Open || i.Op == api.Void || i.Op == api.Text {
			n++
		}
	}
	return n
}

// P18.1: all short lists, against the instructions that want them, and the trees that they come to of none.
func TestAllSmall(t *testing.T) {
	each(list(tx("x"), el("p"), el("br"), at(el("p", tx("y"), stays()), "a"), key(el("p", el("q", el("br"), tx("z"))), "k"), stays(), all(), el("p", all())), 4, func(want []wish.Want) {
		nodes := makes(want)
		agree(t, want, nodes)
		if got := count(denote.Of(want, nil)); got != nodes {
			t.Errorf("%s comes to %d nodes, not %d", show(want), got, nodes)
		}
	})
}

// count is how many nodes trees have.
func count(l []api.Tree) int {
	n := 0
	for _, x := range l {
		n += tree.Count(x)
	}
	return n
}

// someWants and someTrees are made of what is picked; by a pick of few, what is wanted takes much.
func someWants(depth int, pick func(n int) int) []wish.Want {
	var l []wish.Want
	for range pick(6) {
		switch pick(8) {
		case 0:
			l = append(l, stays())
		case 1:
			l = append(l, all())
		case 2, 3:
			l = append(l, tx(string(rune('a'+pick(3)))))
		default:
			w := at(key(el([]string{"p", "q"}[pick(2)]), []string{"", "", "k", "l", "m"}[pick(5)]), []string{"", "a", "b", "a b", "b a c"}[pick(5)])
			if depth > 0 {
				w.Kids = someWants(depth-1, pick)
			}
			l = append(l, w)
		}
	}
	return l
}

func someTrees(depth int, pick func(n int) int) []api.Tree {
	var l []api.Tree
	for _, w := range someWants(0, pick) {
		x := api.Tree{Tag: w.Tag, Key: w.Key, Text: w.Text, Attrs: w.Attrs}
		if depth > 0 && w.Kind == elem {
			x.Kids = someTrees(depth-1, pick)
		}
		l = append(l, x)
	}
	return l
}

// places calls do with each list of what is wanted, l itself among them.
func places(l *[]wish.Want, do func(l *[]wish.Want)) {
	do(l)
	for i := range *l {
		if (*l)[i].Kind == elem {
			places(&(*l)[i].Kids, do)
		}
	}
}

// P18.2: with one thing more wanted, at any place, both are no less, and more just if it is one that may be made.
func TestMore(t *testing.T) {
	r := rand.New(rand.NewSource(18))
	for range 1000 {
		want := someWants(3, r.Intn)
		n, old := 0, r.Intn(300)-20
		places(&want, func(*[]wish.Want) { n++ })
		for which := range n {
			more, add, i := ownWants(want), someWants(1, r.Intn), 0
			places(&more, func(l *[]wish.Want) {
				if i++; i-1 == which {
					*l = slices.Insert(*l, r.Intn(len(*l)+1), add...)
				}
			})
			nodes, changes := bound.Nodes(more)-bound.Nodes(want), bound.Changes(more, old)-bound.Changes(want, old)
			if nodes < 0 || changes < 0 || nodes != makes(add) || changes != 4*makes(add) {
				t.Fatalf("with %s more than %s: %d, %d more", show(add), show(want), nodes, changes)
			}
		}
		for i := range want {
			if bound.Nodes(want[:i]) > bound.Nodes(want) || bound.Changes(want[i:], old) > bound.Changes(want, old) || bound.Changes(want, old) > bound.Changes(want, old+i) {
				t.Fatalf("%s, %d: less than of less", show(want), old)
			}
		}
	}
}

// focused tells whether the focus is a tree, or in it: the focus is told by its Text.
func focused(x api.Tree) bool { return x.Text == "focus" || slices.ContainsFunc(x.Kids, focused) }

// needs is how many nodes a patch makes, and how many changes it has, by the words of chapter 19.
func needs(want []wish.Want, old []api.Tree) (nodes, changes int) {
	var olds []match.Old
	var left []int
	for i, x := range old {
		olds, left = append(olds, match.Old{Tag: x.Tag, Key: x.Key}), append(left, i)
	}
	found := match.Of(olds, want)
	for i, w := range want {
		took := found.Take[i]
		ahead := slices.Index(left, took)
		switch {
		case w.Kind == rest:
			left = nil
		case took < 0 && w.Kind != next:
			nodes, changes = nodes+1, changes+2
		case took < 0:
		case ahead > 0 && focused(old[took]):
			changes += ahead
		case ahead > 0:
			changes++
		}
		var was api.Tree
		if took >= 0 {
			left, was = slices.Delete(left, ahead, ahead+1), old[took]
		}
		if w.Kind == words && took >= 0 && was.Text != w.Text {
			changes++
		}
		if w.Kind == elem {
			if took < 0 && len(w.Attrs) > 0 || took >= 0 && !attr.Same(attr.Join(was.Attrs, w.Attrs), was.Attrs) {
				changes++
			}
			n, c := needs(w.Kids, was.Kids)
			nodes, changes = nodes+n, changes+c
		}
	}
	return nodes, changes + len(left)
}

// enough holds that a patch of some old trees needs no more than told.
func enough(t *testing.T, want []wish.Want, old []api.Tree) {
	t.Helper()
	nodes, changes := needs(want, old)
	if nodes > bound.Nodes(want) || changes > bound.Changes(want, count(old)) {
		t.Fatalf("%s of %v: %d made, %d changes; told %d, %d", show(want), old, nodes, changes, bound.Nodes(want), bound.Changes(want, count(old)))
	}
}

// run holds what is picked: the answers, and that a patch, with the focus at what is picked, needs no more.
func run(t *testing.T, pick func(n int) int) {
	t.Helper()
	want, old := someWants(3, pick), someTrees(3, pick)
	agree(t, want, makes(want))
	for l := old; len(l) > 0; {
		at := pick(len(l))
		was := l[at].Text
		l[at].Text = "focus"
		enough(t, want, old)
		l[at].Text = was
		l = l[at].Kids
	}
	enough(t, want, old)
	if nodes, _ := needs(want, nil); nodes != bound.Nodes(want) {
		t.Fatalf("%s of nothing: %d made, told %d", show(want), nodes, bound.Nodes(want))
	}
}

// P18.1: what is told is how much a patch may need: of many by chance, by a fixed seed, none needs more.
func TestEnough(t *testing.T) {
	r := rand.New(rand.NewSource(181))
	for range 20000 {
		run(t, r.Intn)
	}
	// Turned round, with the focus in the last one.
	for n := range 100 {
		var old []api.Tree
		var want []wish.Want
		for i := range n {
			old = append(old, api.Tree{Tag: "p", Key: fmt.Sprint(i), Kids: []api.Tree{{Text: "x"}, {Tag: "br"}}})
			want = append(want, at(key(el("p", key(el("q"), "k"), tx("y")), fmt.Sprint(n-1-i)), "a"))
		}
		enough(t, want, old)
		if n > 0 {
			old[n-1].Text = "focus"
		}
		enough(t, want, old)
		enough(t, want[:n/2], old)
		enough(t, nil, old)
	}
}

// P1: nothing is kept: asked again, or between others, it is the same; goroutines may ask at once (go test -race sees more).
func TestTwice(t *testing.T) {
	want := list(el("p", tx("x"), stays()), el("br"), all())
	var together sync.WaitGroup
	for i := range 6 {
		together.Go(func() {
			for n := range 50 {
				if bound.Nodes(want) != 3 || bound.Changes(want, n) != 2*n+13 || bound.Changes(want[:i%2], -n) != 8*(i%2)+1 {
					t.Errorf("%d, %d: another answer", i, n)
				}
			}
		})
	}
	together.Wait()
}

// P1: very much wanted, very deep ones, and any number of old ones.
func TestGreat(t *testing.T) {
	const many = 1 << 17
	wide := slices.Repeat(list(el("p", tx("x"), stays(), el("br"), all())), many)
	if n, c := bound.Nodes(wide), bound.Changes(wide, many); n != 3*many || c != 14*many+1 {
		t.Errorf("wide: %d, %d", n, c)
	}
	deep := list(tx("x"), all())
	for range 1 << 16 {
		deep = list(el("p", deep...))
	}
	if n, c := bound.Nodes(deep), bound.Changes(deep, -many); n != 1<<16+1 || c != 1<<18+5 {
		t.Errorf("deep: %d, %d", n, c)
	}
	// So many old ones there can't be; an answer there is all the same.
	for _, old := range []int{1 << 32, 1 << 61, 1 << 62, math.MaxInt / 2, math.MaxInt/2 + 1, math.MaxInt - 1, math.MaxInt} {
		bound.Changes(wide, old)
		bound.Changes(nil, old)
	}
}

// P1: a goal for go test -fuzz; its seeds run in every test. Each byte picks something.
func FuzzBound(f *testing.F) {
	for _, s := range []string{"", strings.Repeat("\x05\x01\x02\x00\x03", 60), strings.Repeat("\x03\x04\x00\x02\x04\x01\x05", 90), strings.Repeat("\x02\x07\x01\x03", 200)} {
		f.Add([]byte(s))
	}
	f.Fuzz(func(t *testing.T, b []byte) {
		run(t, func(n int) int {
			if len(b) == 0 {
				return 0
			}
			x := int(b[0]) % n
			b = b[1:]
			return x
		})
	})
}
