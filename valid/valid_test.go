package valid_test

import (
	"fmt"
	"math"
	"math/rand"
	"regexp"
	"slices"
	"strings"
	"sync"
	"testing"

	"placket/api"
	"placket/valid"
)

// The ops, and the errors, by their numbers, as the document tells them.
const (
	open     = 1
	closes   = 2
	void     = 3
	text     = 4
	dynamic  = 5
	static   = 6
	skip     = 7
	skipNode = 8

	errForm  = 7
	errOpen  = 8
	errAttr  = 9
	errKey   = 10
	errSkip  = 11
	errDepth = 12
	errLarge = 13
)

func in(op int, a, b string) api.Ins { return api.Ins{Op: op, A: a, B: b} }
func rep(s string, n int) string     { return strings.Repeat(s, n) }

var (
	aVoid = regexp.MustCompile(`\A(?:br|hr|img|input)\z`)
	aName = regexp.MustCompile(`\A[a-z][a-z0-9-]{0,11}\z`)
	aText = regexp.MustCompile(`\A[ -~]{0,60}\z`)
)

// of is the program of words: p, or p#k, an Open; br, or br#k, a Void; / a Close; a=1 a Dynamic; a:1 a Static; 'x a Text; * a Skip; _ a SkipNode; ! what may not be.
func of(words string) []api.Ins {
	var l []api.Ins
	for _, w := range strings.Fields(words) {
		l = append(l, one(w))
	}
	return l
}

func one(w string) api.Ins {
	switch w[0] {
	case '/':
		return in(closes, "", "")
	case '*':
		return in(skip, "", "")
	case '_':
		return in(skipNode, "", "")
	case '\'':
		return in(text, w[1:], "")
	case '!':
		return in(0, "", "")
	}
	if a, b, ok := strings.Cut(w, "="); ok {
		return in(dynamic, a, b)
	}
	if a, b, ok := strings.Cut(w, ":"); ok {
		return in(static, a, b)
	}
	a, b, _ := strings.Cut(w, "#")
	if aVoid.MatchString(a) {
		return in(void, a, b)
	}
	return in(open, a, b)
}

func shown(l []api.Ins) string {
	s := fmt.Sprint(len(l), ":")
	for _, i := range l[:min(len(l), 20)] {
		s += fmt.Sprintf(" %d %.20q %.20q", i.Op, i.A, i.B)
	}
	return s
}

// may tells by the words of layer 11 whether an instruction may be.
func may(i api.Ins) bool {
	switch i.Op {
	case 1:
		return aName.MatchString(i.A) && !aVoid.MatchString(i.A) && aText.MatchString(i.B)
	case 3:
		return aVoid.MatchString(i.A) && aText.MatchString(i.B)
	case 4:
		return aText.MatchString(i.A) && i.B == ""
	case 5, 6:
		return aName.MatchString(i.A) && aText.MatchString(i.B)
	case 2, 7, 8:
		return i.A == "" && i.B == ""
	}
	return false
}

// opened is how many elements are open behind a program without errors.
func opened(l []api.Ins) int {
	n := 0
	for _, i := range l {
		switch i.Op {
		case open:
			n++
		case closes:
			n--
		}
	}
	return n
}

// beside are those that stand ahead, at the place that is behind a program without errors, gone through from behind.
func beside(l []api.Ins) []api.Ins {
	var at []api.Ins
	inner := 0
	for _, i := range slices.Backward(l) {
		switch i.Op {
		case closes:
			inner++
			continue
		case open:
			if inner == 0 {
				return at
			}
			inner--
		}
		if inner == 0 {
			at = append(at, i)
		}
	}
	return at
}

// wrongTold tells whether an attribute of that name may not stand behind a program without errors.
func wrongTold(l []api.Ins, name string) bool {
	n := 0
	for _, i := range slices.Backward(l) {
		switch i.Op {
		case dynamic, static:
			if n++; n == 8 || i.A == name {
				return true
			}
		default:
			return i.Op != open && i.Op != void
		}
	}
	return true
}

// faultOf is the first error of i, behind a program without errors, or none: the words told from behind, without anything kept.
func faultOf(l []api.Ins, i api.Ins) api.Code {
	tells, at := i.Op == dynamic || i.Op == static, beside(l)
	if !may(i) {
		return errForm
	}
	if tells && wrongTold(l, i.A) {
		return errAttr
	}
	if i.Op == closes && opened(l) == 0 {
		return errOpen
	}
	if i.Op != closes && !tells && slices.Contains(at, in(skip, "", "")) {
		return errSkip
	}
	if (i.Op == open || i.Op == void) && i.B != "" && slices.ContainsFunc(at, func(j api.Ins) bool { return (j.Op == open || j.Op == void) && j.B == i.B }) {
		return errKey
	}
	if i.Op == open && opened(l) == 8 {
		return errDepth
	}
	return 0
}

// errorOf is a program's error, or none.
func errorOf(l []api.Ins) api.Code {
	if len(l) > 120 {
		return errLarge
	}
	for n, i := range l {
		if err := faultOf(l[:n], i); err != 0 {
			return err
		}
	}
	if opened(l) > 0 {
		return errOpen
	}
	return 0
}

// is holds a program's error, 0 for none, as the document tells it.
func is(t *testing.T, want api.Code, l []api.Ins) {
	t.Helper()
	given := slices.Clone(l)
	err := valid.Check(l)
	if want == 0 && err != nil {
		t.Errorf("Check(%s): %v, not none", shown(l), err)
	}
	// Itself, not one that only stands for it.
	if want != 0 && (err == nil || err != error(want)) {
		t.Errorf("Check(%s): %v, not %v", shown(l), err, want)
	}
	if !slices.Equal(given, l) {
		t.Errorf("Check(%s) changed it to %s", shown(given), shown(l))
	}
}

// words holds a program of words, by hand, and that the words told another way tell the same.
func words(t *testing.T, want api.Code, s string) {
	t.Helper()
	l := of(s)
	is(t, want, l)
	if told := errorOf(l); told != want {
		t.Errorf("the words of %q tell %v, not %v", s[:min(len(s), 200)], told, want)
	}
}

// holds holds any program against the words told another way.
func holds(t *testing.T, l []api.Ins) {
	t.Helper()
	is(t, errorOf(l), l)
}

// P13.1: ordinary ones, and the chapter's example.
func TestOrdinary(t *testing.T) {
	words(t, errOpen, "/")
	is(t, 0, nil)
	is(t, 0, []api.Ins{})
	words(t, 0, "'hi")
	words(t, 0, "' 'x 'x")
	words(t, 0, "p /")
	words(t, 0, "p#k 'x /")
	words(t, 0, "br")
	words(t, 0, "br#k a=1 b:2 hr")
	words(t, 0, "*")
	words(t, 0, "_ _ _")
	words(t, 0, "p a=1 b:2 'x br _ q * / _ / 'y *")
	words(t, 0, "ul li#a 'x / li#b 'y / li 'z / li / /")
	words(t, errOpen, "p")
	words(t, errOpen, "p / /")
	words(t, errAttr, "a=1")
	words(t, errSkip, "* 'x")
	words(t, errKey, "p#k / p#k /")
	words(t, errDepth, "p p p p p p p p p / / / / / / / / /")
	words(t, errForm, "!")
}

// P13.1: what may not be, of each op, wherever it stands, and of ops that there aren't.
func TestErrForm(t *testing.T) {
	bad := []api.Ins{
		{}, in(9, "", ""), in(-1, "", ""), in(open, "br", ""), in(open, "input", "k"), in(open, "", ""), in(open, "P", ""), in(open, "1", ""), in(open, "p", "\n"), in(open, "p", rep("x", 61)), in(open, rep("x", 13), ""),
		in(closes, "p", ""), in(closes, "", "p"), in(void, "p", ""), in(void, "", ""), in(void, "br", "\x7f"), in(void, "br", rep("x", 61)), in(text, "hi", "k"), in(text, "\xff", ""), in(text, rep("x", 61), ""),
		in(dynamic, "", ""), in(dynamic, "1", ""), in(dynamic, "a", "\x80"), in(static, "", ""), in(static, "a b", ""), in(static, "a", rep("x", 300)), in(skip, "p", ""), in(skip, "", "k"), in(skipNode, "p", ""), in(skipNode, "", "k"),
	}
	for _, op := range []int{math.MinInt, math.MaxInt, math.MinInt32, math.MaxInt32, -8, 10, 256, 1 << 32} {
		for _, a := range []string{"", "p", "br"} {
			bad = append(bad, in(op, a, ""))
		}
	}
	for op := 1; op <= 8; op++ {
		bad = append(bad, in(op+256, "p", ""), in(op+256, "", ""), in(op-256, "br", ""), in(-op, "p", ""), in(op+1<<32, "", ""))
	}
	// Behind each of these some other error applies, too, to one of some op.
	for _, ahead := range []string{"", "p", "p a=1", "br", "'x", "_", "*", "p *", "p * /", "p /", "p#k /", "br#k", "p#x p#x", "br#k * ", "p p p p p p p p", "p p p p p p p p#k br#k *", "p a=1 b=1 c=1 d=1 e=1 f=1 g=1 h=1"} {
		for _, x := range bad {
			l := append(of(ahead), x)
			is(t, errForm, l)
			is(t, errForm, append(l, of("! / a=1 a=1")...))
		}
	}
	for _, x := range bad {
		is(t, errForm, append([]api.Ins{x}, slices.Repeat(of("_"), 119)...))
		is(t, errForm, append(slices.Repeat(of("_"), 119), x))
		is(t, errLarge, append(slices.Repeat(of("_"), 120), x))
		is(t, errLarge, append([]api.Ins{x}, slices.Repeat(of("_"), 120)...))
	}
}

// P13.1: an attribute stands behind an Open, or a Void, or another one, of either kind.
func TestErrAttrPlace(t *testing.T) {
	for _, a := range []string{"a=1", "a:1", "a=", "a:"} {
		for _, ahead := range []string{"", "'x", "p /", "p b=1 /", "p 'x", "_", "p _", "*", "p *", "p * /", "br _", "br 'x", "p b=1 'x", "p br b=1 /", "p q /", "br *", "p b=1 q / "} {
			words(t, errAttr, ahead+" "+a)
			// Nothing behind it mends it, and no error behind it is told.
			words(t, errAttr, ahead+" "+a+" / / !")
		}
		for _, ahead := range []string{"p", "p#k", "p b=1", "p b:1", "p b=1 c:2 d=3"} {
			words(t, 0, ahead+" "+a+" /")
			words(t, 0, "'x q "+ahead+" "+a+" 'x / _ / *")
			words(t, errAttr, ahead+" / "+a)
		}
		for _, ahead := range []string{"br", "hr#k", "img b=1", "input b:1 c=2", "p / br", "p a=1 / br", "_ br"} {
			words(t, 0, ahead+" "+a)
			words(t, 0, ahead+" "+a+" 'x br")
			words(t, 0, "q "+ahead+" "+a+" /")
			words(t, 0, "q a=1 "+ahead+" "+a+" /")
			words(t, errOpen, "/ "+ahead+" "+a)
		}
	}
}

// P13.1: no name is told twice of one element, static or not, whatever its value; of another one it is.
func TestErrAttrTwice(t *testing.T) {
	for _, e := range []string{"p", "br", "p#k", "img#k"} {
		end := ""
		if e[0] == 'p' {
			end = " /"
		}
		for _, one := range []string{"a=1", "a:1", "a=", "a:"} {
			for _, two := range []string{"a=1", "a:1", "a=2", "a:", "a=a"} {
				words(t, errAttr, e+" "+one+" "+two+end)
				words(t, errAttr, e+" "+one+" b=1 "+two+end)
				words(t, errAttr, e+" b:1 "+one+" c= d: "+two+end)
				words(t, 0, e+" "+one+end+" q "+two+" /")
				words(t, 0, e+" "+one+end+" hr "+two)
				words(t, 0, "q "+one+" "+e+" "+two+end+" /")
				words(t, 0, "q "+one+" br "+two+" "+e+" "+two+end+" / q "+one+" /")
			}
			// A value, a key, or a tag, of that name is none.
			words(t, 0, e+" b=a "+one+end)
			words(t, 0, "a "+one+" / a#a "+one+" / a#b a:a b=a /")
			words(t, 0, e+" "+one+" ab=1 a-=1 aa:1"+end)
		}
	}
	is(t, 0, []api.Ins{in(void, "br", ""), in(dynamic, "br", ""), in(static, "hr", "")})
	long := []api.Ins{in(void, "br", ""), in(dynamic, "abcdefghijkl", ""), in(static, "abcdefghijkm", ""), in(static, "abcdefghijk", "")}
	is(t, 0, long)
	is(t, errAttr, append(long, in(dynamic, "abcdefghijkl", "")))
}

// P13.1: at most 8 are told of one element, of both kinds together.
func TestErrAttrMany(t *testing.T) {
	for _, e := range []string{"p", "br", "p#k", "br#k"} {
		end := ""
		if e[0] == 'p' {
			end = " /"
		}
		for kinds := range 1 << 9 {
			s := e
			for n := range 9 {
				s += fmt.Sprintf(" a%d%c%d", n, "=:"[kinds>>n&1], n%2)
				want := api.Code(0)
				if n == 8 {
					want = errAttr
				}
				if n >= 6 {
					is(t, want, of(s+end))
				}
			}
			is(t, errAttr, of(s+" a0=1"+end))
		}
		eight := " a=1 b:1 c=1 d:1 e=1 f:1 g=1 h:1"
		words(t, 0, e+eight+end+" "+strings.TrimSuffix(e, "#k")+eight+end)
		words(t, 0, "q"+eight+" "+e+eight+end+" /")
		words(t, errAttr, e+eight+" h:1"+end)
		words(t, errAttr, e+eight+" i:1"+end)
		words(t, errAttr, "q"+eight+" "+e+eight+" i=1"+end+" /")
	}
}

// P13.1: a Close ends what is open, and only that; behind the last one nothing is open.
func TestErrOpen(t *testing.T) {
	for _, s := range []string{"/", "'x /", "br /", "br a=1 /", "* /", "_ /", "p / /", "p q / / /", "p * / /", "br#k hr /", "p a=1 / /", "p p p p p p p p / / / / / / / / /"} {
		words(t, errOpen, s)
		words(t, errOpen, s+" p / 'x")
		words(t, errOpen, s+" ! a=1")
		words(t, errOpen, "q / "+s)
		words(t, errOpen, s+" p")
	}
	for _, s := range []string{"p", "p#k", "p a=1", "p 'x", "p br", "p _", "p *", "p q /", "p q", "p q / * ", "p / q", "p p p p p p p p", "p / p / p / p"} {
		words(t, errOpen, s)
		words(t, errOpen, "'x br "+s)
		words(t, errOpen, s+" / q 'x")
		// What is wrong ahead of the end is told first.
		words(t, errForm, s+" !")
		words(t, errForm, "! "+s)
	}
	words(t, errAttr, "p 'x a=1")
	words(t, errSkip, "p * 'x")
	words(t, errKey, "p br#k br#k")
	words(t, errDepth, "p p p p p p p p p")
}

// P13.1: behind a Skip nothing is at its place but what closes it; in it nothing is, and it is forgotten once the element ends.
func TestErrSkip(t *testing.T) {
	for _, x := range []string{"p /", "p#k /", "br", "br#k", "br a=1", "'x", "'", "*", "_"} {
		words(t, errSkip, "* "+x)
		words(t, errSkip, "'x * "+x)
		words(t, errSkip, "p / br _ * "+x)
		words(t, errSkip, "p * "+x+" /")
		words(t, errSkip, "p q * / * "+x+" /")
		words(t, errSkip, "p * / * "+x)
		words(t, errSkip, "p p p p p p p p * "+x+" / / / / / / / /")
		words(t, errSkip, "* "+x+" ! /")
		words(t, 0, "p * / "+x)
		words(t, 0, "p * / p "+x+" /")
		words(t, 0, "p q * / "+x+" / "+strings.TrimSuffix(x, "#k"))
		words(t, 0, "p _ "+x+" /")
		if x != "*" {
			words(t, 0, "p "+x+" * / *")
			words(t, 0, x+" *")
			words(t, 0, "_ "+x+" _")
		}
	}
	words(t, 0, "p * / p * / p p * / p * / * / *")
	words(t, errSkip, "p * / * p * /")
	// Neither a Close nor an attribute is behind a Skip.
	words(t, errOpen, "* /")
	words(t, errAttr, "* a=1")
	words(t, errAttr, "p * a:1 /")
	words(t, errAttr, "p a=1 * a=1 /")
	words(t, errAttr, "br * a=1")
}

// P13.1: a key stands once at a place, of Opens and Voids together, whatever their tags, and what is between them.
func TestErrKey(t *testing.T) {
	for _, one := range []string{"p#k /", "q#k /", "br#k", "hr#k a=1", "p#k a=k 'k /", "p#k q#k / /", "p#k * /"} {
		for _, two := range []string{"p#k /", "ul#k /", "br#k", "input#k"} {
			for _, between := range []string{"", "'x", "_", "p /", "p#l / br#m", "p * /", "p#l p#k / /", "br"} {
				words(t, errKey, one+" "+between+" "+two)
				words(t, errKey, "q "+one+" "+between+" "+two+" /")
				words(t, errKey, "p p p p p "+one+" "+between+" "+two+" / / / / /")
				words(t, errKey, one+" "+between+" "+two+" !")
				// At other places it is another's.
				words(t, 0, "q "+one+" / "+between+" "+two)
				words(t, 0, "ul "+one+" "+between+" / ul "+two+" /")
				words(t, 0, one+" "+between+" q "+two+" /")
				words(t, 0, one+" "+between+" q#j br "+two+" / hr#i")
			}
		}
	}
	words(t, 0, "p#k p#k p#k br#k / / /")
	words(t, errKey, "p#k p#k / p#k / / ")
	words(t, errKey, "p#k p#k / br#l p#k / /")
	// None is no key.
	words(t, 0, "p / p / br br p a=1 / br a=1")
	words(t, 0, "p# / p# / br# br#")
	// No other thing's B, or A, is one.
	words(t, 0, "p#k a=k b:k / p a=k b:k / br a=k br#l a=l b:k 'k 'k")
	words(t, 0, "p#p / br#br 'br hr#a a=a k#l / l#k /")
	// Each bit of it counts.
	for _, k := range []string{"a", "A", " ", "  ", " a", "a ", "aa", "0", "00", "~", "<k>", "k=1", rep("x", 60), rep("x", 59), rep("x", 59) + "y", "y" + rep("x", 59)} {
		for _, j := range []string{"a", "A", " ", "0", "k", rep("x", 60), rep("x", 59) + "z"} {
			want := api.Code(0)
			if k == j {
				want = errKey
			}
			is(t, want, []api.Ins{in(void, "br", k), in(void, "hr", j)})
			is(t, want, []api.Ins{in(open, "p", k), in(closes, "", ""), in(skipNode, "", ""), in(open, "p", j), in(closes, "", "")})
		}
	}
}

// P13.1: each of many keys is kept, at each place, once there are many.
func TestErrKeyMany(t *testing.T) {
	for n := 1; n < 119; n++ {
		var l []api.Ins
		for k := range n {
			l = append(l, in(void, "br", fmt.Sprint("k", k)))
		}
		is(t, 0, l)
		for k := range n {
			is(t, errKey, append(l, in(void, "hr", fmt.Sprint("k", k))))
		}
		is(t, 0, append(l, in(void, "hr", "k")))
		is(t, 0, append(l, in(void, "hr", fmt.Sprint("k", n))))
	}
	deep := of("p#a br#b p#a br#c p#a br#d p#a br#e p#a br#f p#a br#g p#a br#h")
	for depth, own := range []string{"h", "ag", "af", "ae", "ad", "ac", "ab", "a"} {
		for _, k := range "abcdefgh" {
			want := api.Code(errOpen)
			if strings.ContainsRune(own, k) {
				want = errKey
			}
			if depth == 7 && want != errKey {
				want = 0
			}
			is(t, want, slices.Concat(deep, slices.Repeat(of("/"), depth), []api.Ins{in(void, "br", string(k))}))
		}
	}
}

// P13.1: at most 8 are open; beside, or one behind the other, there are more.
func TestErrDepth(t *testing.T) {
	for n := range 30 {
		want := api.Code(0)
		if n > 8 {
			want = errDepth
		}
		words(t, want, rep("p ", n)+rep("/ ", n))
		if n <= 17 {
			words(t, want, rep("p#k a=1 'x ", n)+rep("_ br#l * / ", n))
		}
		words(t, want, "q / br "+rep("p ", n)+rep("/ ", n))
		if n > 8 {
			words(t, errDepth, rep("p ", n))
			words(t, errDepth, rep("p ", n)+"!")
		}
	}
	eight, ends := "p p p p p p p p ", " / / / / / / / /"
	for _, x := range []string{"br", "br#k a=1", "'x", "*", "_", "a=1", "/ p", "/ p / p / p 'x", "/ / p p", "br hr img"} {
		words(t, 0, eight+x+ends)
		words(t, 0, eight+x+ends+" "+eight+x+ends)
	}
	words(t, errDepth, eight+"p /"+ends)
	for _, x := range []string{"br", "br a=1 'x", "/ p", "/ / p p", "_ 'x"} {
		words(t, errDepth, eight+x+" p /"+ends)
		words(t, errDepth, eight+x+" p#k ! / /"+ends)
	}
	words(t, 0, rep("p / ", 60))
	words(t, 0, rep("p p / / ", 30))
}

// P13.1: where several apply to one instruction, the first of the chapter's list is told; of several instructions the first one's.
func TestFirst(t *testing.T) {
	eight, ends := "p p p p p p p p ", " / / / / / / / /"
	words(t, errSkip, "br#k * br#k")
	words(t, errSkip, "p#k / * p#k /")
	words(t, errSkip, eight+"* p /"+ends)
	words(t, errSkip, eight+"br#k * p#k /"+ends)
	words(t, errKey, eight+"br#k p#k /"+ends)
	words(t, errKey, eight+"br#k br#k"+ends)
	words(t, errDepth, eight+"br#k p#l /"+ends)
	is(t, errForm, append(of("br#k *"), in(open, "br", "k")))
	is(t, errForm, append(of(eight+"br#k"), in(open, "hr", "k")))
	is(t, errForm, append(of(eight), in(open, "", "")))
	is(t, errForm, []api.Ins{in(closes, "p", "")})
	is(t, errForm, []api.Ins{in(dynamic, "A", "")})
	is(t, errForm, append(of("p a=1"), in(dynamic, "a", "\n")))
	is(t, errForm, append(of("*"), in(text, "x", "k")))
	// Each error ahead of each other one.
	all := []struct {
		want api.Code
		s    string
	}{{errForm, "!"}, {errAttr, "'x a=1"}, {errOpen, "/"}, {errSkip, "* _"}, {errKey, "br#k br#k"}, {errDepth, eight + "p"}}
	for _, one := range all {
		for _, two := range all {
			words(t, one.want, one.s+" "+two.s)
			words(t, one.want, "q / br#j 'x "+one.s+" "+two.s)
		}
	}
}

// P13.1: more than 120 are too many, whatever they are; 120 are looked at.
func TestErrLarge(t *testing.T) {
	for _, s := range []string{"_", "'x", "br", "p /", "p a=1 /", "p p / /", "p 'x br /", "p#k *", "*", "br#k", "a=1", "/", "!", "p", "p * /", "p p p p p p p p p"} {
		l := of(s)
		for n := 115; n <= 125; n++ {
			long := slices.Repeat(l, n)[:n]
			holds(t, long)
			if n > 120 {
				is(t, errLarge, long)
			}
		}
		for _, n := range []int{121, 128, 240, 256, 376, 1000, 65536, 65536 + 5} {
			is(t, errLarge, slices.Repeat(l, n)[:n])
		}
	}
	is(t, 0, slices.Repeat(of("_"), 120))
	is(t, errLarge, slices.Repeat(of("_"), 121))
	is(t, 0, slices.Repeat(of("p /"), 60))
	is(t, errOpen, append(slices.Repeat(of("_"), 119), of("p")...))
	is(t, errLarge, append(slices.Repeat(of("_"), 119), of("p /")...))
	is(t, 0, append(slices.Repeat(of("_"), 119), of("*")...))
	is(t, errSkip, append(slices.Repeat(of("_"), 118), of("* _")...))
	is(t, errOpen, append(slices.Repeat(of("_"), 119), of("/")...))
	is(t, errAttr, append(slices.Repeat(of("_"), 119), of("a=1")...))
	is(t, 0, append(slices.Repeat(of("_"), 118), of("br a=1")...))
	is(t, errLarge, append(of("/"), slices.Repeat(of("_"), 120)...))
}

// all holds each program of up to n more words behind l.
func all(t *testing.T, l []api.Ins, n int, from []api.Ins) {
	holds(t, l)
	for i := 0; n > 0 && i < len(from); i++ {
		all(t, append(l, from[i]), n-1, from)
	}
}

// P13.1: all short programs, and all that are at the edges of depth and of attributes.
func TestAllShort(t *testing.T) {
	all(t, nil, 5, of("p p#k br br#k / a=1 a:2 b=1 'k * _ !"))
	all(t, nil, 6, of("p#k q#k hr#k / a=k 'x * _"))
	all(t, nil, 7, of("p#k / br#k *"))
	all(t, nil, 8, of("p / br#k"))
	all(t, nil, 11, of("p /"))
	for _, s := range []string{"p p p p p p", "p p p p p p p", "p p p p p p p p", "p p#k * / p p p p p p#k"} {
		all(t, of(s), 4, of("p p#k br#k / a=1 'x * _"))
		all(t, append(of(s), of("br#k")...), 4, of("p p#k br#k / a=1 *"))
	}
	for _, s := range []string{"p a=1 b=1 c=1 d=1 e=1 f=1", "br a=1 b:1 c=1 d:1 e=1 f:1 g:1", "p p a:1 b:1 c:1 d:1 e:1 f:1 g:1 h:1"} {
		all(t, of(s), 4, of("a=1 h:1 i=1 j:1 / br q 'x *"))
	}
}

// aProgram is one by chance, without errors, which at most size instructions make, closed.
func aProgram(r *rand.Rand, size int) []api.Ins {
	pool := of("p p#a p#b q#c div br br#a img#b hr#d / / / a=1 a:1 b=2 c:3 d=4 e=5 f:6 g=7 h:8 i=9 'x 'hi ' * _ _")
	var l []api.Ins
	for range size {
		i := pool[r.Intn(len(pool))]
		if faultOf(l, i) == 0 && (i.Op != skip || r.Intn(4) == 0) {
			l = append(l, i)
		}
	}
	return append(l, slices.Repeat(of("/"), opened(l))...)
}

// P13.1: programs by chance, of up to 120, whole, and with one of them changed, left out, or laid between.
func TestByChance(t *testing.T) {
	pool := of("p p#a p#b br br#a / / a=1 b:1 i=1 'x * _ !")
	for seed := range 3000 {
		r := rand.New(rand.NewSource(int64(seed)))
		l := aProgram(r, 1+r.Intn(200))
		holds(t, l)
		for range 4 {
			if m := slices.Clone(l); len(m) > 0 {
				at := r.Intn(len(m))
				switch r.Intn(4) {
				case 0:
					m[at] = pool[r.Intn(len(pool))]
				case 1:
					m = slices.Delete(m, at, at+1)
				case 2:
					m = slices.Insert(m, at, pool[r.Intn(len(pool))])
				case 3:
					other := r.Intn(len(m))
					m[at], m[other] = m[other], m[at]
				}
				holds(t, m)
			}
		}
	}
}

// once tells whether nothing beside all of l is a Skip, or has a key.
func once(l []api.Ins) bool {
	return !slices.ContainsFunc(beside(l), func(i api.Ins) bool {
		return i.Op == skip || (i.Op == open || i.Op == void) && i.B != ""
	})
}

// P13.2: of what may be each front that ends where nothing is open may be; two of them behind each other may be, up to 120, if the first one has neither a Skip nor a key beside all.
func TestFronts(t *testing.T) {
	two := 0
	for seed := range 600 {
		r := rand.New(rand.NewSource(int64(seed)))
		l := aProgram(r, 1+r.Intn(60))
		is(t, 0, l)
		var fronts [][]api.Ins
		for n := range len(l) + 1 {
			if opened(l[:n]) == 0 {
				is(t, 0, l[:n])
				fronts = append(fronts, l[:n])
			} else {
				is(t, errOpen, l[:n])
			}
		}
		fronts = append(fronts, aProgram(r, 40), aProgram(r, 5))
		for _, a := range fronts {
			for _, b := range fronts {
				both := slices.Concat(a, b)
				holds(t, both)
				if once(a) && len(both) <= 120 {
					is(t, 0, both)
					two++
				}
			}
		}
	}
	if two < 1000 {
		t.Errorf("only %d fronts were laid behind each other", two)
	}
	words(t, 0, "p br#k * / p br#k * /")
	words(t, errKey, "p#k / p#k /")
	words(t, errSkip, "* *")
}

// P13.1, R2: nothing is kept from one look to the next, and what is behind the program isn't read.
func TestTwice(t *testing.T) {
	room := append(make([]api.Ins, 0, 8), of("p#k a=1 * / ! /")...)
	for range 3 {
		words(t, 0, "br#k a=1 p#l a=1 * / *")
		words(t, 0, "p#k br#l a=1 /")
		words(t, errOpen, "p p p p p p p p *")
		words(t, errAttr, "a=1")
		words(t, 0, "p p p p p p p p#k * / / / / / / / /")
		words(t, errOpen, "/")
		words(t, errForm, "br !")
		is(t, 0, room[:4])
		is(t, errOpen, room[:3])
		is(t, errForm, room)
		is(t, errLarge, slices.Repeat(of("p"), 121))
	}
}

// R2: several that look at once, at one program, have each its own answer.
func TestAtOnce(t *testing.T) {
	good, bad := of("p#k a=1 br#k * / br#l *"), of("p#k a=1 br#k br#k / br#l *")
	var all sync.WaitGroup
	for range 8 {
		all.Go(func() {
			for range 200 {
				is(t, 0, good)
				is(t, errKey, bad)
			}
		})
	}
	all.Wait()
}

// P1: much of it.
func TestLong(t *testing.T) {
	is(t, errForm, []api.Ins{in(text, rep("x", 1<<20), "")})
	is(t, errForm, []api.Ins{in(open, "p", rep("x", 1<<20))})
	is(t, errLarge, slices.Repeat(of("p"), 1<<20))
	is(t, errLarge, make([]api.Ins, 1<<20))
}

// P1: a goal for go test -fuzz; its seeds run in every test.
func FuzzValid(f *testing.F) {
	const letters = "pqPkbB/aAcC'*_!"
	meant := of("p q p#k q#l br br#k / a=1 a:1 b=1 c:1 'x * _ !")
	for _, s := range []string{"", "/", "p/", "PaA", "p*//", "pppppppp/////////", "paCc/B*", "P/B", "_*'", strings.Repeat("_", 121), "ppppppppB*////////"} {
		f.Add(s, 0, "", "")
	}
	f.Add("p/", 1, "p", "k")
	f.Add("pk", 6, "abcdefghijkl", "\n")
	f.Fuzz(func(t *testing.T, s string, op int, a, b string) {
		var l []api.Ins
		for i := range len(s) {
			at := strings.IndexByte(letters, s[i])
			if at < 0 {
				l = append(l, in(op, a, b))
			} else {
				l = append(l, meant[at])
			}
		}
		holds(t, l)
		// Closed, too.
		if err := errorOf(l); err == errOpen {
			holds(t, append(l, slices.Repeat(of("/"), 3)...))
		}
	})
}
