package attr_test

import (
	"fmt"
	"slices"
	"strconv"
	"strings"
	"testing"

	"placket/api"
	"placket/attr"
	"placket/name"
)

// list reads attributes from words, one each: a=1 is one that isn't static, !a=1 a static one.
func list(words string) []api.Attr {
	var l []api.Attr
	for _, w := range strings.Fields(words) {
		w, static := strings.CutPrefix(w, "!")
		n, v, _ := strings.Cut(w, "=")
		l = append(l, api.Attr{Name: n, Value: v, Static: static})
	}
	return l
}

// words is the way back, for what a test tells.
func words(l []api.Attr) string {
	var b []string
	for _, a := range l {
		w := a.Name + "=" + a.Value
		if a.Static {
			w = "!" + w
		}
		b = append(b, w)
	}
	return strings.Join(b, " ")
}

// many are n attributes of the names that begin so: a0=0 a1=1 and so on.
func many(front string, from, n int) string {
	var b []string
	for i := from; i < from+n; i++ {
		b = append(b, front+strconv.Itoa(i)+"="+strconv.Itoa(i))
	}
	return strings.Join(b, " ")
}

// alike holds lists against each other without the program; a list of none may be nil or empty.
func alike(a, b []api.Attr) bool {
	if len(a) != len(b) {
		return false
	}
	for i := range a {
		if a[i].Name != b[i].Name || a[i].Value != b[i].Value || a[i].Static != b[i].Static {
			return false
		}
	}
	return true
}

// mayPlain, joinPlain and newPlain are the chapter's words, told another way than the program's.
func mayPlain(l []api.Attr) bool {
	seen := map[string]int{}
	for _, a := range l {
		seen[a.Name]++
		if seen[a.Name] > 1 || !name.May(a.Name) || !name.Text(a.Value) {
			return false
		}
	}
	return len(l) <= 8
}

func joinPlain(old, want []api.Attr) []api.Attr {
	var all []api.Attr
	laid := map[string]bool{}
	for _, a := range old {
		if a.Static {
			all = append(all, a)
			laid[a.Name] = true
		}
	}
	for _, a := range want {
		if !a.Static && !laid[a.Name] {
			all = append(all, a)
			laid[a.Name] = true
		}
	}
	if len(all) > 8 {
		all = all[:8]
	}
	return all
}

func newPlain(want []api.Attr) []api.Attr {
	all := slices.Clone(want)
	slices.SortStableFunc(all, func(a, b api.Attr) int {
		switch {
		case a.Static == b.Static:
			return 0
		case a.Static:
			return -1
		}
		return 1
	})
	return all
}

func expect(t *testing.T, call string, got, want []api.Attr) {
	t.Helper()
	if !alike(got, want) {
		t.Errorf("%s: [%s], not [%s]", call, words(got), words(want))
	}
}

func expectIs(t *testing.T, call string, got, want bool) {
	t.Helper()
	if got != want {
		t.Errorf("%s: %v, not %v", call, got, want)
	}
}

func may(t *testing.T, l []api.Attr, want bool) {
	t.Helper()
	expectIs(t, fmt.Sprintf("May(%.200q)", words(l)), attr.May(l), want)
}

func join(t *testing.T, old, want, out string) {
	t.Helper()
	expect(t, "Join("+old+"; "+want+")", attr.Join(list(old), list(want)), list(out))
}

func fresh(t *testing.T, want, out string) {
	t.Helper()
	expect(t, "New("+want+")", attr.New(list(want)), list(out))
}

// P3.1: lists that may be: none at all, one, several, static ones among them.
func TestMayOrdinary(t *testing.T) {
	may(t, nil, true)
	may(t, []api.Attr{}, true)
	for _, s := range []string{"a=1", "!a=1", "a=", "!a=", "a=1 b=1", "a=1 !b=2 c=3", "!a=1 !b=2", "a=a", "a-=1 a-1=2 a1=3", "br=1 root=2", "a=1 aa=1 aaa=1"} {
		may(t, list(s), true)
	}
	may(t, []api.Attr{{Name: "title", Value: `a <b> & "c" = 'd'`}}, true)
}

// P3.1: at most eight, whether they are static or not.
func TestMayCount(t *testing.T) {
	for n := 0; n <= 300; n++ {
		may(t, list(many("a", 0, n)), n <= 8)
		may(t, list(many("!a", 0, n)), n <= 8)
		may(t, list(many("a", 0, n/2)+" "+many("!b", 0, n-n/2)), n <= 8)
	}
}

// P3.1: no two of one Name, wherever these stand, whatever else they are.
func TestMayTwice(t *testing.T) {
	for _, s := range []string{"a=1 a=1", "a=1 a=2", "!a=1 a=1", "a=1 !a=1", "!a=1 !a=1", "a=1 b=1 a=1", "a=1 b=1 b=1", "a=1 a=1 b=1"} {
		may(t, list(s), false)
	}
	for n := 2; n <= 8; n++ {
		for i := range n {
			for k := i + 1; k < n; k++ {
				l := list(many("a", 0, n))
				may(t, l, true)
				l[k].Name = l[i].Name
				may(t, l, false)
				l[k].Static = true
				may(t, l, false)
			}
		}
	}
}

// P3.1: each Name a name, each Value a text, at every place of a list of every length.
func TestMayNameAndValue(t *testing.T) {
	no := []string{"", "1a", "-a", "A", "aB", "a b", " a", "a ", "a_", "a.b", "a\x00", "\xff", "a\xff", "é", "aé", "a\n", "<", strings.Repeat("a", 13)}
	noText := []string{"\x1f", "\x7f", "\x80", "\xff", "\x00", "a\nb", "\t", "é", "aé", strings.Repeat("x", 61), strings.Repeat("x", 1<<16)}
	text := []string{"", " ", "~", "&<>\"'", "1a", "A", strings.Repeat("x", 60), strings.Repeat(" ", 60)}
	for n := 1; n <= 8; n++ {
		for i := range n {
			for _, s := range no {
				l := list(many("a", 0, n))
				l[i].Name = s
				may(t, l, false)
				l[i].Static = true
				may(t, l, false)
			}
			for _, s := range noText {
				l := list(many("a", 0, n))
				l[i].Value = s
				may(t, l, false)
				l[i].Static = true
				may(t, l, false)
			}
			for _, s := range text {
				l := list(many("a", 0, n))
				l[i].Value = s
				may(t, l, true)
				l[i].Name = strings.Repeat("z", 12)
				may(t, l, true)
			}
		}
	}
}

// P3.1: every byte, alone as a Name and as a Value, and behind a letter.
func TestMayEveryByte(t *testing.T) {
	for b := range 256 {
		one := string([]byte{byte(b)})
		letter := b >= 'a' && b <= 'z'
		inName := letter || b >= '0' && b <= '9' || b == '-'
		may(t, []api.Attr{{Name: one}}, letter)
		may(t, []api.Attr{{Name: "a" + one, Value: "1"}}, inName)
		may(t, []api.Attr{{Name: "a", Value: one}}, b >= 32 && b <= 126)
		may(t, []api.Attr{{Name: "b"}, {Name: "a", Value: "x" + one}}, b >= 32 && b <= 126)
	}
}

// P3.1: the first one of that Name, true; or a zero one, false.
func TestFind(t *testing.T) {
	for _, c := range []struct{ l, name, want string }{
		{"a=1", "a", "a=1"},
		{"!a=1", "a", "!a=1"},
		{"a=", "a", "a="},
		{"a=1 b=2 c=3", "a", "a=1"},
		{"a=1 b=2 c=3", "b", "b=2"},
		{"a=1 b=2 c=3", "c", "c=3"},
		{"a=1 a=2", "a", "a=1"},
		{"a=1 !a=2", "a", "a=1"},
		{"!a=1 a=2", "a", "!a=1"},
		{"b=0 a=2 a=1 a=3", "a", "a=2"},
		{"b=0 !a=1 a=1", "a", "!a=1"},
		{"aa=1 a=2", "a", "a=2"},
		{"a=2 aa=1", "aa", "aa=1"},
		{"A=1 a=2", "a", "a=2"},
		// Find asks nothing of a Name: of one that may not be likewise.
		{"1=1 =2", "1", "1=1"},
		{"1=1 =2 =3", "", "=2"},
		{many("a", 0, 50), "a49", "a49=49"},
	} {
		got, ok := attr.Find(list(c.l), c.name)
		if want := list(c.want)[0]; !ok || got != want {
			t.Errorf("Find([%s], %q): %v, %v, not %v, true", c.l, c.name, got, ok, want)
		}
	}
	for _, c := range []struct{ l, name string }{
		{"", "a"}, {"", ""}, {"a=1", "b"}, {"a=1", ""}, {"a=1", "A"}, {"a=1", "aa"}, {"aa=1", "a"}, {"a=b", "b"}, {"a=1", "a=1"},
		{"a=1", "1"}, {"a=1", "a "}, {"a=1", "a\x00"}, {"a=1 b=2", "ab"}, {"!a=1", "!a"},
	} {
		got, ok := attr.Find(list(c.l), c.name)
		if ok || got != (api.Attr{}) {
			t.Errorf("Find([%s], %q): %v, %v, not a zero one, false", c.l, c.name, got, ok)
		}
	}
}

// P3.1: ordinary joins, and the chapter's example.
func TestJoinOrdinary(t *testing.T) {
	join(t, "!a=1 b=2", "c=3", "!a=1 c=3")
	join(t, "", "", "")
	join(t, "a=1 b=2", "", "")
	join(t, "", "a=1 b=2", "a=1 b=2")
	join(t, "!a=1 !b=2", "", "!a=1 !b=2")
	join(t, "a=1", "a=2", "a=2")
	join(t, "a=1 b=2", "b=3 a=4", "b=3 a=4")
	join(t, "x=0 !a=1 y=0 !b=2", "c=3 d=4", "!a=1 !b=2 c=3 d=4")
	join(t, "!b=1 x=0 !a=2", "d=3 c=4", "!b=1 !a=2 d=3 c=4")
	join(t, "!a=", "b=", "!a= b=")
}

// P3.1: the program's static ones are left out, whether the node has them or not.
func TestJoinProgramStatic(t *testing.T) {
	join(t, "", "!a=1", "")
	join(t, "", "!a=1 b=2 !c=3 d=4", "b=2 d=4")
	join(t, "!a=1", "!a=2", "!a=1")
	join(t, "!a=1", "!b=2", "!a=1")
	join(t, "a=1", "!a=1", "")
	// One that is left out isn't laid: the same Name behind it isn't held back by it.
	join(t, "", "!a=1 a=2", "a=2")
	join(t, "", "a=2 !a=1", "a=2")
	join(t, "!b=0", "!a=1 a=2 !a=3", "!b=0 a=2")
}

// P3.1: a Name that the node has as a static one stays as the node has it.
func TestJoinNodeStatic(t *testing.T) {
	join(t, "!a=1", "a=2", "!a=1")
	join(t, "!a=1", "a=1", "!a=1")
	join(t, "!a=1", "b=2 a=3 c=4", "!a=1 b=2 c=4")
	join(t, "!a=1 !b=2", "b=3 a=4", "!a=1 !b=2")
	join(t, "x=0 !a=1", "a=2 x=3", "!a=1 x=3")
	join(t, "!aa=1", "a=2", "!aa=1 a=2")
	// One that isn't static holds nothing back, though a static one of the Name stands there, too.
	join(t, "a=0 !b=1", "a=2", "!b=1 a=2")
	join(t, "a=0 !a=1", "a=2 b=3", "!a=1 b=3")
}

// P3.1: of a Name that the program has twice the first one that isn't static is laid.
func TestJoinTwice(t *testing.T) {
	join(t, "", "a=1 a=2", "a=1")
	join(t, "", "a=1 b=2 a=3 b=4 c=5", "a=1 b=2 c=5")
	join(t, "!c=0", "a=1 a=1 a=1 c=2", "!c=0 a=1")
	join(t, "", "=1 =2", "=1")
	// The chapter asks for Names of the program's alone: the node's static ones are laid in order.
	join(t, "!a=1 !a=2", "a=3 b=4", "!a=1 !a=2 b=4")
}

// P3.1: no more than eight: the last ones are left out.
func TestJoinFull(t *testing.T) {
	for o := range 20 {
		for w := range 20 {
			out := strings.Fields(many("!s", 0, o) + " " + many("d", 0, w))
			join(t, many("!s", 0, o), many("d", 0, w), strings.Join(out[:min(len(out), 8)], " "))
		}
	}
	join(t, many("!s", 0, 4)+" "+many("x", 0, 4), many("d", 0, 8), many("!s", 0, 4)+" "+many("d", 0, 4))
	// What is left out for its Name, or as a static one, takes no place.
	join(t, many("!s", 0, 7), "s0=a s1=b !z=c s6=d a=1 b=2", many("!s", 0, 7)+" a=1")
	join(t, "", "a=1 a=2 "+many("b", 0, 6)+" a=3 c=4 d=5", "a=1 "+many("b", 0, 6)+" c=4")
	join(t, "", many("!s", 0, 9)+" "+many("d", 0, 9), many("d", 0, 8))
	join(t, many("x", 0, 9), "a=1", "a=1")
	join(t, many("x", 0, 9)+" !a=1", "", "!a=1")
}

// P3.1: the program's static ones, in order, then its others; none left out.
func TestNew(t *testing.T) {
	fresh(t, "", "")
	fresh(t, "a=1", "a=1")
	fresh(t, "!a=1", "!a=1")
	fresh(t, "a=1 b=2", "a=1 b=2")
	fresh(t, "b=1 a=2", "b=1 a=2")
	fresh(t, "!b=1 !a=2", "!b=1 !a=2")
	fresh(t, "a=1 !b=2", "!b=2 a=1")
	fresh(t, "!a=1 b=2", "!a=1 b=2")
	fresh(t, "a=1 !d=2 c=3 !b=4 e=5", "!d=2 !b=4 a=1 c=3 e=5")
	fresh(t, many("d", 0, 4)+" "+many("!s", 0, 4), many("!s", 0, 4)+" "+many("d", 0, 4))
	// The chapter asks nothing of Names, Values and of how many there are here.
	fresh(t, "a=1 a=2 !a=3", "!a=3 a=1 a=2")
	fresh(t, "A=1 !=2", "!=2 A=1")
	fresh(t, many("d", 0, 9)+" "+many("!s", 0, 9), many("!s", 0, 9)+" "+many("d", 0, 9))
}

// P3.1: the same, in order, with what is static.
func TestSame(t *testing.T) {
	same := []string{"", "a=1", "!a=1", "a=", "a=1 b=2", "!a=1 b=2", "a=1 a=1", "A=1 =2", many("a", 0, 9)}
	for _, s := range same {
		expectIs(t, "Same("+s+"; it)", attr.Same(list(s), list(s)), true)
	}
	if !attr.Same(nil, []api.Attr{}) || !attr.Same([]api.Attr{}, nil) || !attr.Same(nil, nil) || !attr.Same([]api.Attr{}, []api.Attr{}) {
		t.Error("lists of none aren't the same")
	}
	for _, c := range [][2]string{
		{"", "a=1"},
		{"a=1", "a=1 b=2"},
		{"a=1", "a=1 a=1"},
		{"b=2", "a=1 b=2"},
		{"a=1 b=2", "b=2 a=1"},
		{"a=1 b=2 c=3", "a=1 c=3 b=2"},
		{"a=1", "!a=1"},
		{"a=1 b=2", "a=1 !b=2"},
		{"!a=1 b=2", "a=1 !b=2"},
		{"a=1", "b=1"},
		{"a=1", "a=2"},
		{"a=1", "A=1"},
		{"a=1", "a="},
		{"a=1 b=2", "a=2 b=1"},
		{many("a", 0, 8), many("a", 0, 9)},
		{many("a", 0, 9), many("a", 0, 8) + " a9=8"},
	} {
		expectIs(t, "Same("+c[0]+"; "+c[1]+")", attr.Same(list(c[0]), list(c[1])), false)
		expectIs(t, "Same("+c[1]+"; "+c[0]+")", attr.Same(list(c[1]), list(c[0])), false)
	}
	expectIs(t, "Same of a zero one", attr.Same(nil, []api.Attr{{}}), false)
	// What runs together alike isn't the same.
	expectIs(t, "Same", attr.Same([]api.Attr{{Name: "ab", Value: "c"}}, []api.Attr{{Name: "a", Value: "bc"}}), false)
}

// some are lists of all kinds, lists that may not be among them.
func some() []string {
	l := []string{
		"", "a=1", "a=2", "!a=1", "!a=2", "b=1", "!b=1", "a=1 b=2", "b=2 a=1", "!a=1 b=2", "a=1 !b=2", "!a=1 !b=2", "!b=2 !a=1",
		"b=1 !c=2 a=3", "a=1 a=2", "!a=1 a=2", "a=1 !a=2", "!a=1 !a=2", "A=1", "=", "!=1", "a=\xff", "!a=\x00",
		many("a", 0, 8), many("!a", 0, 8), many("a", 4, 8), many("!a", 4, 8), many("b", 0, 8), many("a", 0, 9), many("!a", 0, 9),
		many("a", 0, 4) + " " + many("!b", 0, 4), many("!a", 0, 7), many("!b", 0, 3) + " " + many("a", 2, 5), many("!a", 0, 30), many("a", 0, 30),
	}
	return l
}

// P3.1: every pair of these, held against the chapter's words told another way.
func TestPairs(t *testing.T) {
	for _, a := range some() {
		may(t, list(a), mayPlain(list(a)))
		expect(t, "New("+a+")", attr.New(list(a)), newPlain(list(a)))
		for _, b := range some() {
			expect(t, "Join("+a+"; "+b+")", attr.Join(list(a), list(b)), joinPlain(list(a), list(b)))
			expectIs(t, "Same("+a+"; "+b+")", attr.Same(list(a), list(b)), a == b)
		}
	}
}

// small calls f with all lists of at most n of some attributes.
func small(n int, f func([]api.Attr)) {
	each := list("a=1 !a=1 a=2 b=1 !b=2 c=1")
	var extend func(l []api.Attr)
	extend = func(l []api.Attr) {
		f(l)
		if len(l) < n {
			for _, a := range each {
				extend(append(slices.Clip(l), a))
			}
		}
	}
	extend(nil)
}

// P3.1, P3.3: every pair of small lists.
func TestAllSmall(t *testing.T) {
	var all [][]api.Attr
	small(3, func(l []api.Attr) { all = append(all, l) })
	for _, a := range all {
		may(t, a, mayPlain(a))
		expect(t, "New("+words(a)+")", attr.New(a), newPlain(a))
		for _, b := range all {
			expectIs(t, "Same("+words(a)+"; "+words(b)+")", attr.Same(a, b), alike(a, b))
			expect(t, "Join("+words(a)+"; "+words(b)+")", attr.Join(a, b), joinPlain(a, b))
		}
	}
	small(5, func(l []api.Attr) {
		may(t, l, mayPlain(l))
		expect(t, "New("+words(l)+")", attr.New(l), newPlain(l))
	})
}

// roomy is a list with room behind it, in which a careless append would write.
func roomy(s string) ([]api.Attr, []api.Attr) {
	l := list(s)
	whole := append(slices.Clone(l), list("x=x y=y z=z w=w")...)
	for i := range 8 {
		whole = append(whole, api.Attr{Name: "behind", Value: strconv.Itoa(i)})
	}
	return whole[:len(l)], whole
}

// scribble changes all of a list, and what is behind it.
func scribble(l []api.Attr) {
	l = l[:cap(l)]
	for i := range l {
		l[i] = api.Attr{Name: "scribbled", Value: "over", Static: !l[i].Static}
	}
}

// P3.2: no argument is changed, and what is told is new memory: a change of it changes nothing else, nor does one of an argument change it.
func TestNewMemory(t *testing.T) {
	for _, a := range some() {
		for _, b := range some() {
			old, oldWhole := roomy(a)
			want, wantWhole := roomy(b)
			oldWas, wantWas := slices.Clone(oldWhole), slices.Clone(wantWhole)
			unchanged := func(call string) {
				t.Helper()
				if !alike(oldWhole, oldWas) || !alike(wantWhole, wantWas) {
					t.Fatalf("%s(%s; %s): an argument was changed", call, a, b)
				}
			}
			attr.May(old)
			attr.Find(old, "a")
			attr.Same(old, want)
			unchanged("May, Find, Same")
			joined, again := attr.Join(old, want), attr.Join(old, want)
			made, once := attr.New(want), attr.New(want)
			unchanged("Join, New")
			joinedWas, madeWas := slices.Clone(joined), slices.Clone(made)
			scribble(again)
			scribble(once)
			unchanged("a change of what was told by Join, New")
			scribble(oldWhole)
			scribble(wantWhole)
			expect(t, "Join("+a+"; "+b+"), behind changes of the arguments", joined, joinedWas)
			expect(t, "New("+b+"), behind changes of the argument", made, madeWas)
		}
	}
}

// P3.2: where nothing has to be left out or moved what is told is new memory, too; so is what is told of one list that is both.
func TestNewMemoryAsItIs(t *testing.T) {
	for _, s := range []string{"a=1", "!a=1", "a=1 b=2", "!a=1 !b=2", "!a=1 b=2", many("a", 0, 8), many("!a", 0, 8)} {
		l := list(s)
		for _, got := range [][]api.Attr{attr.New(l), attr.Join(nil, l), attr.Join(l, nil), attr.Join(l, l)} {
			scribble(got)
			expect(t, s+", behind a change of what was told of it", l, list(s))
		}
		found, _ := attr.Find(l, l[0].Name)
		found.Value, found.Static = "changed", !found.Static
		expect(t, s+", behind a change of what was found in it", l, list(s))
	}
}

// P3.3: of lists that may be, what is joined may be; joined again it stays.
func TestFollows(t *testing.T) {
	var all [][]api.Attr
	small(3, func(l []api.Attr) { all = append(all, l) })
	for _, s := range some() {
		all = append(all, list(s))
	}
	for _, old := range all {
		for _, want := range all {
			if !mayPlain(old) || !mayPlain(want) {
				continue
			}
			joined := attr.Join(old, want)
			if !mayPlain(joined) || !attr.May(joined) {
				t.Errorf("Join(%s; %s): [%s] may not be", words(old), words(want), words(joined))
			}
			again := attr.Join(joined, want)
			expect(t, "joined again with "+words(want), again, joined)
			expectIs(t, "Same of what was joined again", attr.Same(joined, again), true)
			// A new one's, joined with the program that made it, stay.
			made := attr.New(want)
			expectIs(t, "May of a new one's", attr.May(made), true)
			expect(t, "New, joined with "+words(want), attr.Join(made, want), made)
		}
	}
}

// P1: long lists, of what may be nothing, end soon.
func TestLong(t *testing.T) {
	const n = 1 << 18
	long := make([]api.Attr, n)
	for i := range long {
		long[i] = api.Attr{Name: "n" + strconv.Itoa(i), Value: "\xff", Static: i%2 == 0}
	}
	may(t, long, false)
	if _, ok := attr.Find(long, "none"); ok {
		t.Error("Find: one that isn't there")
	}
	for _, old := range [][]api.Attr{nil, long[:8], long} {
		expect(t, "Join", attr.Join(old, long), joinPlain(old, long))
	}
	expect(t, "New", attr.New(long), newPlain(long))
	expectIs(t, "Same", attr.Same(long, slices.Clone(long)), true)
	expectIs(t, "Same", attr.Same(long, long[1:]), false)
	// Of one Name throughout: the same, with all but one left out.
	for i := range long {
		long[i].Name = "a"
	}
	may(t, long, false)
	expect(t, "Join", attr.Join(nil, long), joinPlain(nil, long))
}

// unpack makes two lists of some bytes: the goal's way to reach odd ones.
func unpack(b []byte) (old, want []api.Attr) {
	for len(b) >= 3 {
		a := api.Attr{Name: string(b[1] & 0x7f), Value: string(b[2:3]), Static: b[0]&1 == 1}
		if b[0]&2 == 2 {
			old = append(old, a)
		} else {
			want = append(want, a)
		}
		b = b[3:]
	}
	return old, want
}

// P1: a goal for go test -fuzz; its seeds run in every test.
func FuzzAttr(f *testing.F) {
	for _, s := range []string{"", "\x01a1", "\x03a1\x00b2\x02c3", "\x01a1\x00a2\x03a3\x02a4", strings.Repeat("\x03a1", 9), strings.Repeat("\x00a1\x00b2", 9)} {
		f.Add([]byte(s))
	}
	f.Fuzz(func(t *testing.T, b []byte) {
		old, want := unpack(b)
		may(t, old, mayPlain(old))
		expect(t, "New", attr.New(want), newPlain(want))
		joined := attr.Join(old, want)
		expect(t, "Join", joined, joinPlain(old, want))
		if len(joined) > 8 {
			t.Errorf("Join: %d", len(joined))
		}
		if attr.May(old) && attr.May(want) {
			expectIs(t, "May of what is joined", attr.May(joined), true)
			expectIs(t, "Same, joined again", attr.Same(attr.Join(joined, want), joined), true)
		}
		for _, a := range old {
			got, ok := attr.Find(old, a.Name)
			at := slices.IndexFunc(old, func(o api.Attr) bool { return o.Name == a.Name })
			if !ok || got != old[at] {
				t.Errorf("Find(%q): %v, %v", a.Name, got, ok)
			}
		}
	})
}
