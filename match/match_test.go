package match_test

import (
	"fmt"
	"math"
	"math/rand"
	"slices"
	"strings"
	"testing"

	"placket/api"
	"placket/match"
	"placket/wish"
)

// The kinds of what is wanted, by their numbers, as the document tells them.
const (
	elem  = 1
	words = 2
	next  = 3
	rest  = 4
)

// olds are the old ones of words: ' a text; p, or p#k, an element.
func olds(s string) []match.Old {
	var l []match.Old
	for _, w := range strings.Fields(s) {
		if w == "'" {
			l = append(l, match.Old{})
			continue
		}
		tag, key, _ := strings.Cut(w, "#")
		l = append(l, match.Old{Tag: tag, Key: key})
	}
	return l
}

// wants are what words want: 'x a text; p, or p#k, an element; _ that the next node stays; * that all stay.
func wants(s string) []wish.Want {
	var l []wish.Want
	for _, w := range strings.Fields(s) {
		l = append(l, one(w))
	}
	return l
}

func one(w string) wish.Want {
	switch w[0] {
	case '\'':
		return wish.Want{Kind: words, Text: w[1:]}
	case '_':
		return wish.Want{Kind: next}
	case '*':
		return wish.Want{Kind: rest}
	}
	tag, key, _ := strings.Cut(w, "#")
	return wish.Want{Kind: elem, Tag: tag, Key: key}
}

// lists are places; those of no elements are the same, nil or empty.
type lists struct{ take, kept, gone []int }

func show(r match.Res) string {
	return fmt.Sprintf("take %v, kept %v, gone %v", r.Take, r.Kept, r.Gone)
}

func same(r match.Res, l lists) bool {
	return slices.Equal(r.Take, l.take) && slices.Equal(r.Kept, l.kept) && slices.Equal(r.Gone, l.gone)
}

func agree(t *testing.T, old []match.Old, want []wish.Want, told lists) {
	t.Helper()
	if got := match.Of(old, want); !same(got, told) {
		t.Errorf("Of(%v, %v): %s, not %s", old, want, show(got), show(match.Res{Take: told.take, Kept: told.kept, Gone: told.gone}))
	}
}

func l(places ...int) []int { return places }

// P16.1: the chapter's example.
func TestExample(t *testing.T) {
	agree(t, olds("p '"), wants("'x p"), lists{l(-1, 0), nil, l(1)})
}

// P16.1: a text takes the first one that is left, if that is a text, whatever its own text is.
func TestText(t *testing.T) {
	for _, c := range []struct {
		old, want string
		told      lists
	}{
		{"'", "'x", lists{l(0), nil, nil}},
		{"'", "'", lists{l(0), nil, nil}},
		{"", "'x", lists{l(-1), nil, nil}},
		{"p", "'x", lists{l(-1), nil, l(0)}},
		{"p#k", "'x", lists{l(-1), nil, l(0)}},
		{"br", "'x", lists{l(-1), nil, l(0)}},
		{"p '", "'x", lists{l(-1), nil, l(0, 1)}},
		{"' p", "'x", lists{l(0), nil, l(1)}},
		{"' ' '", "'x 'x", lists{l(0, 1), nil, l(2)}},
		{"' '", "'x 'x 'x", lists{l(0, 1, -1), nil, nil}},
		{"' p '", "'x 'y", lists{l(0, -1), nil, l(1, 2)}},
		{"' p '", "'x p 'y", lists{l(0, 1, 2), nil, nil}},
		{"p '", "'x p 'y", lists{l(-1, 0, 1), nil, nil}},
	} {
		agree(t, olds(c.old), wants(c.want), c.told)
	}
}

// P16.1: an element without a key takes the first one that is left, if that is of its tag and has no key.
func TestElement(t *testing.T) {
	for _, c := range []struct {
		old, want string
		told      lists
	}{
		{"p", "p", lists{l(0), nil, nil}},
		{"", "p", lists{l(-1), nil, nil}},
		{"br", "br", lists{l(0), nil, nil}},
		{"b", "p", lists{l(-1), nil, l(0)}},
		{"p", "b", lists{l(-1), nil, l(0)}},
		{"p", "pp", lists{l(-1), nil, l(0)}},
		{"pp", "p", lists{l(-1), nil, l(0)}},
		{"P", "p", lists{l(-1), nil, l(0)}},
		{"'", "p", lists{l(-1), nil, l(0)}},
		{"p#k", "p", lists{l(-1), nil, l(0)}},
		{"p#k p", "p", lists{l(-1), nil, l(0, 1)}},
		{"' p", "p", lists{l(-1), nil, l(0, 1)}},
		{"b p", "p", lists{l(-1), nil, l(0, 1)}},
		{"p p p", "p p", lists{l(0, 1), nil, l(2)}},
		{"p b p", "p p b", lists{l(0, -1, 1), nil, l(2)}},
		{"p b", "b p", lists{l(-1, 0), nil, l(1)}},
		{"p b", "p b p", lists{l(0, 1, -1), nil, nil}},
		{"p#k p", "p#k p", lists{l(0, 1), nil, nil}},
		{"p p#k p", "p p", lists{l(0, -1), nil, l(1, 2)}},
		{"p p#k p", "p#k p p", lists{l(1, 0, 2), nil, nil}},
	} {
		agree(t, olds(c.old), wants(c.want), c.told)
	}
}

// P16.1, P16.3: an element with a key takes the first one of all that are left of that tag and that key, wherever it stands.
func TestKey(t *testing.T) {
	for _, c := range []struct {
		old, want string
		told      lists
	}{
		{"p#k", "p#k", lists{l(0), nil, nil}},
		{"", "p#k", lists{l(-1), nil, nil}},
		{"p", "p#k", lists{l(-1), nil, l(0)}},
		{"'", "p#k", lists{l(-1), nil, l(0)}},
		{"b#k", "p#k", lists{l(-1), nil, l(0)}},
		{"p#l", "p#k", lists{l(-1), nil, l(0)}},
		{"k#p", "p#k", lists{l(-1), nil, l(0)}},
		{"p#kk", "p#k", lists{l(-1), nil, l(0)}},
		{"pk#k", "p#kk", lists{l(-1), nil, l(0)}},
		{"p#K", "p#k", lists{l(-1), nil, l(0)}},
		{"br#k", "br#k", lists{l(0), nil, nil}},
		{"' p b b#k p#l p#k", "p#k", lists{l(5), nil, l(0, 1, 2, 3, 4)}},
		{"p#k ' p#l", "p#l 'x p#k", lists{l(2, -1, 0), nil, l(1)}},
		{"p#a p#b p#c", "p#c p#b p#a", lists{l(2, 1, 0), nil, nil}},
		{"p#a p#b p#c", "p#c p#a", lists{l(2, 0), nil, l(1)}},
		{"p#a p#b p#c", "p#b p#d p#b", lists{l(1, -1, -1), nil, l(0, 2)}},
		{"p#k b#k", "b#k p#k", lists{l(1, 0), nil, nil}},
		// Of several of the same tag and key, the first one that is left.
		{"p#k p#k", "p#k", lists{l(0), nil, l(1)}},
		{"p#k ' p#k b p#k", "p#k p#k", lists{l(0, 2), nil, l(1, 3, 4)}},
		{"p#k p#k p#k", "_ p#k p#k p#k", lists{l(0, 1, 2, -1), nil, nil}},
		{"p#k p#k p#k p#k", "_ _ p#k", lists{l(0, 1, 2), nil, l(3)}},
		{"p#k p#k p#k p#k", "p#k _ p#k _ p#k", lists{l(0, 1, 2, 3, -1), nil, nil}},
		{"b#k p#k p#k", "p#k _ p#k", lists{l(1, 0, 2), nil, nil}},
		// What stands ahead of what was taken is left, still, and the first one.
		{"' p p#k b", "p#k 'x p b", lists{l(2, 0, 1, 3), nil, nil}},
		{"' p p#k b", "p#k _ _ _ _", lists{l(2, 0, 1, 3, -1), nil, nil}},
		{"' p#k p", "'x p p#k", lists{l(0, -1, 1), nil, l(2)}},
		{"' p#k p", "'x p#k p", lists{l(0, 1, 2), nil, nil}},
	} {
		agree(t, olds(c.old), wants(c.want), c.told)
	}
}

// P16.1: that the next node stays takes the first one that is left, whatever it is, if there is one.
func TestNode(t *testing.T) {
	for _, c := range []struct {
		old, want string
		told      lists
	}{
		{"", "_", lists{l(-1), nil, nil}},
		{"'", "_", lists{l(0), nil, nil}},
		{"p", "_", lists{l(0), nil, nil}},
		{"p#k", "_", lists{l(0), nil, nil}},
		{"p#k ' p", "_ _", lists{l(0, 1), nil, l(2)}},
		{"p#k ' p", "_ _ _ _", lists{l(0, 1, 2, -1), nil, nil}},
		{"p p#k", "p#k _ _", lists{l(1, 0, -1), nil, nil}},
		{"p#k p", "_ p#k p", lists{l(0, -1, 1), nil, nil}},
		{"p '", "_ 'x", lists{l(0, 1), nil, nil}},
		{"p '", "'x _", lists{l(-1, 0), nil, l(1)}},
	} {
		agree(t, olds(c.old), wants(c.want), c.told)
	}
}

// P16.1: that all stay keeps all that are left, and takes none; nothing goes then.
func TestAll(t *testing.T) {
	for _, c := range []struct {
		old, want string
		told      lists
	}{
		{"", "*", lists{l(-1), nil, nil}},
		{"'", "*", lists{l(-1), l(0), nil}},
		{"p p#k '", "*", lists{l(-1), l(0, 1, 2), nil}},
		{"p p#k '", "p *", lists{l(0, -1), l(1, 2), nil}},
		{"p p#k '", "p#k *", lists{l(1, -1), l(0, 2), nil}},
		{"p p#k '", "'x *", lists{l(-1, -1), l(0, 1, 2), nil}},
		{"p p#k '", "_ _ *", lists{l(0, 1, -1), l(2), nil}},
		{"p p#k '", "_ _ _ *", lists{l(0, 1, 2, -1), nil, nil}},
		{"p#a p#b p#c p#d p#e", "p#d p#b *", lists{l(3, 1, -1), l(0, 2, 4), nil}},
	} {
		agree(t, olds(c.old), wants(c.want), c.told)
	}
}

// P16.1: what is left at the end goes, by rising places; wanted of nothing, all go.
func TestGone(t *testing.T) {
	for _, c := range []struct {
		old, want string
		told      lists
	}{
		{"", "", lists{}},
		{"'", "", lists{nil, nil, l(0)}},
		{"p ' p#k", "", lists{nil, nil, l(0, 1, 2)}},
		{"p#e p#d p#c p#b p#a", "p#b p#d", lists{l(3, 1), nil, l(0, 2, 4)}},
		{"p#a p#b p#c p#d p#e", "p#e p#a _", lists{l(4, 0, 1), nil, l(2, 3)}},
	} {
		agree(t, olds(c.old), wants(c.want), c.told)
	}
	agree(t, []match.Old{}, []wish.Want{}, lists{})
}

// P16.1: only what a kind names counts: neither what is wanted in an element, its attributes, nor other fields.
func TestOtherFields(t *testing.T) {
	kids := wants("p#k 'x _ *")
	attrs := []api.Attr{{Name: "a", Value: "1"}}
	for _, c := range []struct {
		what string
		want wish.Want
		told lists
	}{
		{"an element, and what is in it", wish.Want{Kind: elem, Tag: "p", Text: "x", Attrs: attrs, Kids: kids}, lists{l(0), nil, l(1, 2)}},
		{"an element of a key, and what is in it", wish.Want{Kind: elem, Tag: "p", Key: "k", Text: "x", Attrs: attrs, Kids: kids}, lists{l(1), nil, l(0, 2)}},
		{"a text of a tag", wish.Want{Kind: words, Tag: "p", Text: "x"}, lists{l(-1), nil, l(0, 1, 2)}},
		{"a text of a tag and a key", wish.Want{Kind: words, Tag: "p", Key: "k"}, lists{l(-1), nil, l(0, 1, 2)}},
		{"the next one, of a tag and a key", wish.Want{Kind: next, Tag: "p", Key: "k", Text: "x", Kids: kids}, lists{l(0), nil, l(1, 2)}},
		{"all, of a tag and a key", wish.Want{Kind: rest, Tag: "p", Key: "k", Text: "x", Kids: kids}, lists{l(-1), l(0, 1, 2), nil}},
	} {
		agree(t, olds("p p#k '"), []wish.Want{c.want}, c.told)
		if t.Failed() {
			t.Fatal(c.what)
		}
	}
	agree(t, olds("' p"), []wish.Want{{Kind: words, Tag: "p", Key: "k", Text: "x"}}, lists{l(0), nil, l(1)})
	// Of no tag it is a text, though it has a key: no element takes it.
	nameless := []match.Old{{Key: "k"}}
	agree(t, nameless, wants("'x"), lists{l(0), nil, nil})
	agree(t, nameless, wants("_"), lists{l(0), nil, nil})
	agree(t, nameless, wants("p#k"), lists{l(-1), nil, l(0)})
	agree(t, nameless, []wish.Want{{Kind: elem, Key: "k"}}, lists{l(-1), nil, l(0)})
	agree(t, nameless, []wish.Want{{Kind: elem}}, lists{l(-1), nil, l(0)})
	agree(t, olds("'"), []wish.Want{{Kind: elem}}, lists{l(-1), nil, l(0)})
}

// P1: what no program wants ends in an answer, too: of kinds that there aren't, none is taken; behind that all stay nothing is left.
func TestWrong(t *testing.T) {
	for _, kind := range []int{0, 5, 6, -1, -2, -3, -4, 8, 257, 258, 1 << 32, 1<<32 + 1, 1<<32 + 3, math.MaxInt, math.MinInt} {
		w := wish.Want{Kind: kind, Tag: "p", Key: "k", Text: "x"}
		agree(t, olds("p#k p '"), []wish.Want{w}, lists{l(-1), nil, l(0, 1, 2)})
		w.Key = ""
		agree(t, olds("p ' p#k"), slices.Concat([]wish.Want{w}, wants("p"), []wish.Want{w, {Kind: kind}}, wants("'x *")), lists{l(-1, 0, -1, -1, 1, -1), l(2), nil})
		agree(t, nil, []wish.Want{w}, lists{l(-1), nil, nil})
	}
	agree(t, olds("p ' p#k"), wants("p * 'x p#k _ p"), lists{l(0, -1, -1, -1, -1, -1), l(1, 2), nil})
	agree(t, olds("p ' p#k"), wants("* * *"), lists{l(-1, -1, -1), l(0, 1, 2), nil})
	agree(t, olds("p ' p#k"), wants("_ * _ *"), lists{l(0, -1, -1, -1), l(1, 2), nil})
	// A key wanted twice.
	agree(t, olds("p#k '"), wants("p#k p#k 'x"), lists{l(0, -1, 1), nil, nil})
	// Names that may not be.
	odd := []match.Old{{Tag: "<", Key: "\xff\n"}, {Tag: "\x00"}, {Tag: " ", Key: " "}}
	agree(t, odd, []wish.Want{{Kind: elem, Tag: " ", Key: " "}, {Kind: elem, Tag: "<", Key: "\xff\n"}, {Kind: elem, Tag: "\x00"}}, lists{l(2, 0, 1), nil, nil})
	agree(t, odd, []wish.Want{{Kind: elem, Tag: "<", Key: "\xfe\n"}, {Kind: elem, Tag: "<\xff", Key: "\n"}}, lists{l(-1, -1), nil, l(0, 1, 2)})
}

// plain is the chapter's words, told another way: a list of the places that are left, looked through from its front.
func plain(old []match.Old, want []wish.Want) lists {
	var r lists
	var left []int
	for i := range old {
		left = append(left, i)
	}
	for _, w := range want {
		in := slices.IndexFunc(left, func(place int) bool { return old[place].Tag != "" && old[place] == match.Old{Tag: w.Tag, Key: w.Key} })
		switch w.Kind {
		case elem:
			if w.Key == "" && in > 0 {
				in = -1
			}
		case words:
			if in = -1; len(left) > 0 && old[left[0]].Tag == "" {
				in = 0
			}
		case next:
			in = min(len(left), 1) - 1
		case rest:
			r.kept, left, in = append(r.kept, left...), nil, -1
		default:
			in = -1
		}
		if in < 0 {
			r.take = append(r.take, -1)
			continue
		}
		r.take = append(r.take, left[in])
		left = slices.Delete(left, in, in+1)
	}
	r.gone = left
	return r
}

// each calls do with all lists of up to n of l.
func each[T any](l []T, n int, do func([]T)) {
	lists := [][]T{nil}
	for ; n >= 0; n-- {
		var longer [][]T
		for _, x := range lists {
			do(x)
			for _, y := range l {
				longer = append(longer, append(slices.Clip(x), y))
			}
		}
		lists = longer
	}
}

// held holds a match against the plain one, and against what follows: each old one is taken once, or kept, or gone.
func held(t *testing.T, old []match.Old, want []wish.Want) {
	got := match.Of(old, want)
	if told := plain(old, want); !same(got, told) {
		t.Fatalf("Of(%v, %v): %s, not %v", old, want, show(got), told)
	}
	taken := slices.DeleteFunc(slices.Clone(got.Take), func(place int) bool { return place == -1 })
	all := slices.Concat(taken, got.Kept, got.Gone)
	slices.Sort(all)
	for i, place := range all {
		if i != place || len(all) != len(old) {
			t.Fatalf("Of(%v, %v): %s: not each once", old, want, show(got))
		}
	}
	if len(got.Take) != len(want) || !slices.IsSorted(got.Kept) || !slices.IsSorted(got.Gone) {
		t.Fatalf("Of(%v, %v): %s: not one of each that is wanted, or not rising", old, want, show(got))
	}
}

// P16.1, P16.3: all short lists, of few tags and keys.
func TestAllSmall(t *testing.T) {
	n := 0
	each(olds("' p b p#k p#l b#k"), 4, func(old []match.Old) {
		each(wants("'x p b p#k p#l _ *"), 3, func(want []wish.Want) {
			held(t, old, want)
			n++
		})
	})
	if n != 1555*400 {
		t.Errorf("%d", n)
	}
	each(olds("' p p#k"), 5, func(old []match.Old) {
		each(wants("'x p p#k _"), 4, func(want []wish.Want) { held(t, old, want) })
	})
}

var tags, named = []string{"p", "b", "br", "", "pk", "k"}, []string{"", "k", "l", "kk", "", ""}

// run makes old ones and what is wanted, of tags and keys that may be and may not.
func run(t *testing.T, pick func(n int) int) {
	var old []match.Old
	for range pick(20) {
		old = append(old, match.Old{Tag: tags[pick(len(tags))], Key: named[pick(len(named))]})
	}
	var want []wish.Want
	for range pick(20) {
		want = append(want, wish.Want{Kind: []int{elem, elem, elem, words, next, elem, pick(9) - 2}[pick(7)], Tag: tags[pick(len(tags))], Key: named[pick(len(named))], Text: "x"})
	}
	wasOld, wasWant := slices.Clone(old), slices.Clone(want)
	held(t, old, want)
	if !slices.Equal(old, wasOld) || !wish.Same(want, wasWant) {
		t.Fatalf("of %v, %v: changed to %v, %v", wasOld, wasWant, old, want)
	}
}

// P16.1, P16.3: by chance, by a fixed seed.
func TestByChance(t *testing.T) {
	r := rand.New(rand.NewSource(16))
	for range 60000 {
		run(t, r.Intn)
	}
}

// P16.1, P16.3: what layer 14 tells of programs: of the program's place alone, not of what is in its elements.
func TestPrograms(t *testing.T) {
	for _, c := range []struct {
		program []api.Ins
		old     string
		told    lists
	}{
		{[]api.Ins{{Op: 1, A: "p", B: "k"}, {Op: 5, A: "a", B: "1"}, {Op: 4, A: "x"}, {Op: 8}, {Op: 2}, {Op: 4, A: "y"}, {Op: 3, A: "br"}, {Op: 7}}, "' br b p#k p", lists{l(3, 0, 1, -1), l(2, 4), nil}},
		{[]api.Ins{{Op: 1, A: "p"}, {Op: 7}, {Op: 2}, {Op: 8}, {Op: 3, A: "br", B: "k"}}, "p b ' br#k '", lists{l(0, 1, 3), nil, l(2, 4)}},
		{[]api.Ins{{Op: 1, A: "p"}, {Op: 1, A: "b", B: "k"}, {Op: 2}, {Op: 2}}, "b#k p", lists{l(-1), nil, l(0, 1)}},
	} {
		want, err := wish.Of(c.program)
		if err != nil {
			t.Fatal(err)
		}
		agree(t, olds(c.old), want, c.told)
	}
	_, err := wish.Of([]api.Ins{{Op: 7}, {Op: 8}})
	if err == nil {
		t.Error("a program may want something behind that all stay")
	}
}

// P16.2: what is told is new memory: writing into it, or into what was handed in, changes nothing else, nor a later answer.
func TestNew(t *testing.T) {
	room, wantRoom := olds("p p#k ' b p p"), wants("p#k p * 'x")
	old, want := room[:4], wantRoom[:2]
	wasOld, wasWant := slices.Clone(room), slices.Clone(wantRoom)
	first := match.Of(old, want)
	kept := match.Of(old, wantRoom[:3])
	again := match.Of(old, want)
	for _, l := range [][]int{first.Take, first.Kept, first.Gone, kept.Take, kept.Kept, kept.Gone} {
		l = l[:cap(l)]
		for i := range l {
			l[i] = 99
		}
	}
	if told := (lists{l(1, 0), nil, l(2, 3)}); !same(again, told) {
		t.Errorf("%s, not %v", show(again), told)
	}
	if !slices.Equal(room, wasOld) || !wish.Same(wantRoom, wasWant) {
		t.Errorf("changed: %v, %v", room, wantRoom)
	}
	clear(room)
	clear(wantRoom)
	if told := (lists{l(1, 0), nil, l(2, 3)}); !same(again, told) {
		t.Errorf("%s, not %v", show(again), told)
	}
}

// P16.2: no two lists of an answer share memory, nor the room behind them.
func TestApart(t *testing.T) {
	for _, want := range []string{"p#k p", "p *", "*", "", "_ _ _ _ _", "'x *"} {
		for which := range 3 {
			r, was := match.Of(olds("p p#k ' b"), wants(want)), match.Of(olds("p p#k ' b"), wants(want))
			all, told := [][]int{r.Take, r.Kept, r.Gone}, [][]int{was.Take, was.Kept, was.Gone}
			full := all[which][:cap(all[which])]
			for i := range full {
				full[i] = 99
			}
			all[which] = append(all[which], 99, 99, 99)
			for other := range 3 {
				if other != which && !slices.Equal(all[other], told[other]) {
					t.Errorf("%q: list %d is %v, not %v, behind a change of list %d", want, other, all[other], told[other], which)
				}
			}
		}
	}
}

// P1: nothing is kept: done again, or between others, it is the same; goroutines may do it at once (go test -race sees more).
func TestTwice(t *testing.T) {
	old, want := olds("p p#k ' b p#k"), wants("p#k _ 'x p#k")
	told := lists{l(1, 0, 2, 4), nil, l(3)}
	ends := make(chan match.Res)
	for range 6 {
		go func() {
			var r match.Res
			for range 50 {
				match.Of(old, wants("* p"))
				r = match.Of(old, want)
				match.Of(nil, want)
			}
			ends <- r
		}()
	}
	for range 6 {
		if r := <-ends; !same(r, told) {
			t.Errorf("%s, not %v", show(r), told)
		}
	}
}

// P1: very many old ones, and very much wanted, each way to take; very deep and very long ones.
func TestGreat(t *testing.T) {
	const many = 1 << 18
	up, down := make([]int, many), make([]int, many)
	for i := range many {
		up[i], down[i] = i, many-1-i
	}
	p, k := slices.Repeat(olds("p"), many), slices.Repeat(olds("p#k"), many)
	none := slices.Repeat(l(-1), many)
	agreeGreat(t, "without keys", p, slices.Repeat(wants("p"), many), lists{up, nil, nil})
	agreeGreat(t, "the next", k, slices.Repeat(wants("_"), many), lists{up, nil, nil})
	agreeGreat(t, "texts of none", p, slices.Repeat(wants("'x"), many), lists{none, nil, up})
	agreeGreat(t, "one key", k, slices.Repeat(wants("p#k"), many), lists{up, nil, nil})
	agreeGreat(t, "of a key that isn't there", k, slices.Repeat(wants("p#l"), many), lists{none, nil, up})
	agreeGreat(t, "all", k, wants("*"), lists{l(-1), up, nil})
	agreeGreat(t, "all, often", k, slices.Repeat(wants("*"), many), lists{none, up, nil})
	agreeGreat(t, "none", k, nil, lists{nil, nil, up})
	agreeGreat(t, "none of none", nil, slices.Repeat(wants("p#k"), many), lists{none, nil, nil})
	agreeGreat(t, "a key behind all that were taken", k, slices.Concat(slices.Repeat(wants("_"), many), slices.Repeat(wants("p#k"), many)), lists{slices.Concat(up, none), nil, nil})
	apart, back := make([]match.Old, many), make([]wish.Want, many)
	for i := range many {
		apart[i] = match.Old{Tag: "p", Key: fmt.Sprint(i)}
		back[many-1-i] = wish.Want{Kind: elem, Tag: "p", Key: fmt.Sprint(i)}
	}
	agreeGreat(t, "a key each, from behind", apart, back, lists{down, nil, nil})
	agreeGreat(t, "the last one of its key, and all", apart, slices.Concat(back[:1], wants("*")), lists{l(many-1, -1), up[:many-1], nil})

	deep := wish.Want{Kind: elem, Tag: "p"}
	for range 1 << 16 {
		deep = wish.Want{Kind: elem, Tag: "p", Kids: []wish.Want{deep}}
	}
	agreeGreat(t, "deep", olds("p p"), []wish.Want{deep}, lists{l(0), nil, l(1)})
	long := strings.Repeat("k", 1<<22)
	agreeGreat(t, "long", []match.Old{{Tag: long, Key: long[1:]}, {Tag: long, Key: long}}, []wish.Want{{Kind: elem, Tag: long, Key: long}, {Kind: elem, Tag: long[1:], Key: long}}, lists{l(1, -1), nil, l(0)})
}

// agreeGreat is agree, but doesn't tell what is too much to be told.
func agreeGreat(t *testing.T, what string, old []match.Old, want []wish.Want, told lists) {
	t.Helper()
	if got := match.Of(old, want); !same(got, told) {
		t.Errorf("%s: %.200s", what, show(got))
	}
}

// P1: a goal for go test -fuzz; its seeds run in every test. Each byte picks something.
func FuzzMatch(f *testing.F) {
	for _, s := range []string{"", "\x03\x00\x01\x00\x00\x03\x00\x03\x01\x00", "\x13" + strings.Repeat("\x00\x01", 18) + "\x12" + strings.Repeat("\x00\x04\x00\x01", 18), strings.Repeat("\x05\x01\x02\x00\x03", 30)} {
		f.Add([]byte(s))
	}
	f.Fuzz(func(t *testing.T, b []byte) {
		run(t, func(n int) int {
			if len(b) == 0 {
				return 0
			}
			x := int(b[0]) % n
			b = b[1:]
			return x
		})
	})
}
