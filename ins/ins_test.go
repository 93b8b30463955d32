package ins_test

import (
	"math"
	"regexp"
	"strings"
	"testing"

	"placket/api"
	"placket/ins"
)

// The ops by their numbers, as the document tells them.
const (
	open     = 1
	closes   = 2
	void     = 3
	text     = 4
	dynamic  = 5
	static   = 6
	skip     = 7
	skipNode = 8
)

var (
	all   = []int{open, closes, void, text, dynamic, static, skip, skipNode}
	voids = []string{"br", "hr", "img", "input"}
)

// noOps are numbers that no op has, some of which are one's if only their last bits, or their size, count.
func noOps() []int {
	l := []int{math.MinInt, math.MaxInt, math.MinInt32, math.MaxInt32, math.MinInt64 + 1, math.MaxInt64 - 1}
	for _, op := range all {
		l = append(l, -op, op+8, op+16, op+256, op+65536, op+1<<31, op+1<<32, op-1<<32, op-256, op+'0', op<<8, ^op, op|math.MinInt)
	}
	for n := -300; n <= 300; n++ {
		if n < 1 || n > 8 {
			l = append(l, n)
		}
	}
	return l
}

// What names and texts are, without the program.
var (
	aName = regexp.MustCompile(`\A[a-z][a-z0-9-]{0,11}\z`)
	aVoid = regexp.MustCompile(`\A(?:br|hr|img|input)\z`)
	aText = regexp.MustCompile(`\A[ -~]{0,60}\z`)
	empty = regexp.MustCompile(`\A\z`)
)

// holds holds an instruction against the chapter's words, told without the program; it tells whether it may be.
func holds(t *testing.T, i api.Ins) bool {
	t.Helper()
	var want bool
	switch i.Op {
	case 1:
		want = aName.MatchString(i.A) && !aVoid.MatchString(i.A) && aText.MatchString(i.B)
	case 3:
		want = aVoid.MatchString(i.A) && aText.MatchString(i.B)
	case 4:
		want = aText.MatchString(i.A) && empty.MatchString(i.B)
	case 5, 6:
		want = aName.MatchString(i.A) && aText.MatchString(i.B)
	case 2, 7, 8:
		want = empty.MatchString(i.A) && empty.MatchString(i.B)
	}
	expect(t, i, want)
	return want
}

func expect(t *testing.T, i api.Ins, want bool) {
	t.Helper()
	if got := ins.May(i); got != want {
		t.Errorf("May(%d %q %q): %v, not %v", i.Op, i.A, i.B, got, want)
	}
}

// may and mayNot hold one instruction, told by its op and texts.
func may(t *testing.T, op int, a, b string) {
	t.Helper()
	expect(t, api.Ins{Op: op, A: a, B: b}, true)
}

func mayNot(t *testing.T, op int, a, b string) {
	t.Helper()
	expect(t, api.Ins{Op: op, A: a, B: b}, false)
}

// P11.1: ordinary ones of each op, and the chapter's example.
func TestMayOrdinary(t *testing.T) {
	may(t, open, "p", "")
	mayNot(t, open, "br", "")
	may(t, open, "p", "k")
	may(t, open, "h1", "a key, of <any> sign & more")
	may(t, open, "root", "")
	may(t, closes, "", "")
	may(t, void, "br", "")
	may(t, void, "img", "k")
	mayNot(t, void, "p", "")
	may(t, text, "hi", "")
	may(t, text, "", "")
	may(t, text, "br", "")
	mayNot(t, text, "hi", "k")
	may(t, dynamic, "a", "1")
	may(t, static, "a", "1")
	may(t, dynamic, "class", "")
	may(t, static, "data-x", "x y")
	may(t, skip, "", "")
	may(t, skipNode, "", "")
}

// P11.1: an Open's tag is no void tag, a Void's is one; each, and what only looks like one.
func TestMayVoidTags(t *testing.T) {
	for _, tag := range voids {
		for _, key := range []string{"", "k", tag, strings.Repeat("~", 60)} {
			mayNot(t, open, tag, key)
			may(t, void, tag, key)
		}
		may(t, text, tag, "")
		// A Name may be a void tag's.
		may(t, dynamic, tag, tag)
		may(t, static, tag, tag)
		for _, near := range []string{tag + "x", tag + "-", tag + "1", tag + tag, "x" + tag, tag[1:], tag[:len(tag)-1]} {
			may(t, open, near, "k")
			mayNot(t, void, near, "k")
		}
		for _, none := range []string{strings.ToUpper(tag), " " + tag, tag + " ", tag + "\x00", tag + "/", "<" + tag + ">", strings.ToUpper(tag[:1]) + tag[1:]} {
			mayNot(t, open, none, "")
			mayNot(t, void, none, "")
		}
	}
	// Void in HTML, but not in the document.
	for _, tag := range []string{"area", "base", "col", "embed", "link", "meta", "param", "source", "track", "wbr"} {
		may(t, open, tag, "")
		mayNot(t, void, tag, "")
	}
	mayNot(t, open, "", "")
	mayNot(t, void, "", "")
	mayNot(t, open, "", "k")
	mayNot(t, void, "", "k")
}

// P11.1: Close, Skip and SkipNode have neither an A nor a B.
func TestMayBare(t *testing.T) {
	for _, op := range []int{closes, skip, skipNode} {
		may(t, op, "", "")
		for _, s := range []string{"p", "br", "a", " ", "0", "none", "\x00", "\xff", "P", strings.Repeat("x", 60), strings.Repeat("x", 61)} {
			mayNot(t, op, s, "")
			mayNot(t, op, "", s)
			mayNot(t, op, s, s)
		}
	}
}

// P11.1: a text has no B, not even one that may be a text.
func TestMayTextWithoutB(t *testing.T) {
	for _, a := range []string{"", "x", " ", "<p>", strings.Repeat("~", 60)} {
		may(t, text, a, "")
		for _, b := range []string{"x", " ", "0", "none", a + "x", "\x00", "\n", "\xff", strings.Repeat("x", 60), strings.Repeat("x", 61)} {
			mayNot(t, text, a, b)
		}
	}
}

// P11.1: names have 1 to 12 bytes, texts at most 60, keys and values too; the other side is ordinary, none, or of a wrong byte.
func TestMayLengths(t *testing.T) {
	for n := 0; n <= 300; n++ {
		x := strings.Repeat("x", n)
		for _, b := range []string{"", "k"} {
			expect(t, api.Ins{Op: open, A: x, B: b}, n >= 1 && n <= 12)
			expect(t, api.Ins{Op: dynamic, A: x, B: b}, n >= 1 && n <= 12)
			expect(t, api.Ins{Op: static, A: x, B: b}, n >= 1 && n <= 12)
			expect(t, api.Ins{Op: text, A: x, B: b}, n <= 60 && b == "")
			expect(t, api.Ins{Op: void, A: x, B: b}, false)
		}
		for _, op := range []int{closes, skip, skipNode} {
			expect(t, api.Ins{Op: op, A: x}, n == 0)
			expect(t, api.Ins{Op: op, B: x}, n == 0)
		}
		for _, one := range []string{"x", " ", "~", "<"} {
			b := strings.Repeat(one, n)
			expect(t, api.Ins{Op: open, A: "p", B: b}, n <= 60)
			expect(t, api.Ins{Op: open, A: "abcdefghijkl", B: b}, n <= 60)
			expect(t, api.Ins{Op: open, A: "br", B: b}, false)
			expect(t, api.Ins{Op: void, A: "br", B: b}, n <= 60)
			expect(t, api.Ins{Op: void, A: "input", B: b}, n <= 60)
			expect(t, api.Ins{Op: void, A: "p", B: b}, false)
			expect(t, api.Ins{Op: dynamic, A: "a", B: b}, n <= 60)
			expect(t, api.Ins{Op: static, A: "a", B: b}, n <= 60)
			expect(t, api.Ins{Op: text, A: b}, n <= 60)
		}
	}
	long := strings.Repeat("x", 1<<20)
	for _, op := range all {
		mayNot(t, op, long, "")
		mayNot(t, op, "p", long)
		mayNot(t, op, "br", long)
		mayNot(t, op, "", long)
		mayNot(t, op, long, long)
	}
}

// P11.1: every byte at every place of A, and of B, of each op; 31, 32, 126 and 127 among them.
func TestMayEveryByte(t *testing.T) {
	for c := range 256 {
		one := string([]byte{byte(c)})
		for _, op := range all {
			for n := range 14 {
				for at := range n {
					s := strings.Repeat("a", at) + one + strings.Repeat("a", n-at-1)
					holds(t, api.Ins{Op: op, A: s})
					holds(t, api.Ins{Op: op, A: s, B: "k"})
					holds(t, api.Ins{Op: op, A: "p", B: s})
					holds(t, api.Ins{Op: op, A: "img", B: s})
					holds(t, api.Ins{Op: op, B: s})
				}
			}
			for _, s := range []string{strings.Repeat(one, 59), strings.Repeat(one, 60), strings.Repeat(one, 61), strings.Repeat("a", 59) + one, strings.Repeat("a", 60) + one} {
				holds(t, api.Ins{Op: op, A: s})
				holds(t, api.Ins{Op: op, A: "p", B: s})
				holds(t, api.Ins{Op: op, A: "br", B: s})
			}
		}
		in := c >= 32 && c <= 126
		expect(t, api.Ins{Op: open, A: "p", B: one}, in)
		expect(t, api.Ins{Op: void, A: "br", B: one}, in)
		expect(t, api.Ins{Op: text, A: one}, in)
		expect(t, api.Ins{Op: dynamic, A: "a", B: one}, in)
		expect(t, api.Ins{Op: static, A: "a", B: one}, in)
	}
}

// texts are what A and B may be: names, texts, and what is neither, at their edges.
func texts() []string {
	l := append([]string{
		"", "p", "a1", "a-", "1a", "-a", "1", "-", "A", "aB", "P", "a_", "a.b", "a:b", "a b", " a", "a ", " ", "~", "a/", "a=", `"`, "<", ">", "&", "&amp;", "<p>", "none", "root", "div", "BR", "Br", "br ", " br", "brr", "r",
		"\x00", "a\x00", "\x1f", "\x7f", "\x80", "\xff", "a\xff", "\n", "a\n", "\na", "\t", "\r\n", "\u00e9", "a\u00e9", "\u0661", "\ufeffa", "\u212a", "\u4e16",
		"abcdefghijkl", "abcdefghijklm", "abcdefghijk-", "9bcdefghijkl", "abcdefghijkl-",
	}, voids...)
	for _, n := range []int{59, 60, 61, 255, 256, 316} {
		l = append(l, strings.Repeat("x", n), strings.Repeat(" ", n), strings.Repeat("x", n-1)+"\n")
	}
	return l
}

// P11.1, P11.2: each op, and each number that is none, with each A and each B.
func TestMayAll(t *testing.T) {
	l := texts()
	for _, op := range append(noOps(), all...) {
		for _, a := range l {
			for _, b := range l {
				i := api.Ins{Op: op, A: a, B: b}
				if !holds(t, i) {
					continue
				}
				if op < 1 || op > 8 {
					t.Errorf("%d %q %q is of no op", op, a, b)
				}
				may(t, op, a, "")
			}
		}
	}
}

// P11.1: what is of no op may not be, whatever its texts.
func TestNoOps(t *testing.T) {
	mayNot(t, 0, "", "")
	mayNot(t, 9, "", "")
	mayNot(t, -1, "", "")
	for _, op := range noOps() {
		mayNot(t, op, "", "")
		mayNot(t, op, "p", "")
		mayNot(t, op, "p", "k")
		mayNot(t, op, "br", "k")
		mayNot(t, op, "hi", "")
	}
}

// P11.1: which ops make, and which tell; the names of api are the document's numbers.
func TestMakesTells(t *testing.T) {
	for _, c := range []struct {
		op, named    int
		makes, tells bool
	}{
		{open, api.Open, true, false},
		{closes, api.Close, false, false},
		{void, api.Void, true, false},
		{text, api.Text, true, false},
		{dynamic, api.Dynamic, false, true},
		{static, api.Static, false, true},
		{skip, api.Skip, false, false},
		{skipNode, api.SkipNode, false, false},
	} {
		if c.op != c.named {
			t.Errorf("op %d is %d by its name", c.op, c.named)
		}
		ops(t, c.op, c.makes, c.tells)
	}
	for _, op := range noOps() {
		ops(t, op, false, false)
	}
}

func ops(t *testing.T, op int, makes, tells bool) {
	t.Helper()
	if got := ins.Makes(op); got != makes {
		t.Errorf("Makes(%d): %v, not %v", op, got, makes)
	}
	if got := ins.Tells(op); got != tells {
		t.Errorf("Tells(%d): %v, not %v", op, got, tells)
	}
}

// P11.2: what may be may be without its B; what makes tells none, nor does an op of which nothing may be.
func TestFollows(t *testing.T) {
	l := texts()
	for op := -20; op <= 20; op++ {
		some := false
		for _, a := range l {
			for _, b := range l {
				if ins.May(api.Ins{Op: op, A: a, B: b}) {
					some = true
					may(t, op, a, "")
				}
			}
		}
		if some != (op >= 1 && op <= 8) {
			t.Errorf("of op %d something may be: %v", op, some)
		}
		if (ins.Makes(op) || !some) && ins.Tells(op) {
			t.Errorf("op %d tells an attribute", op)
		}
		if ins.Makes(op) && !some {
			t.Errorf("op %d makes, but may not be", op)
		}
	}
}

// That nothing is kept: asked again behind others, each answers the same.
func TestTwice(t *testing.T) {
	l := texts()
	var first []bool
	for range 2 {
		n := 0
		for op := 0; op <= 9; op++ {
			for _, a := range l {
				for _, b := range []string{"", "k", "\n", "br"} {
					got := ins.May(api.Ins{Op: op, A: a, B: b})
					if n == len(first) {
						first = append(first, got)
					}
					if got != first[n] {
						t.Errorf("May(%d %q %q): %v, then %v", op, a, b, first[n], got)
					}
					n++
				}
			}
		}
	}
}

// P1: a goal for go test -fuzz; its seeds run in every test.
func FuzzIns(f *testing.F) {
	for op := -1; op <= 10; op++ {
		for _, s := range texts() {
			f.Add(op, s, "")
			f.Add(op, s, "k")
			f.Add(op, "p", s)
			f.Add(op, "hr", s)
		}
	}
	f.Fuzz(func(t *testing.T, op int, a, b string) {
		if holds(t, api.Ins{Op: op, A: a, B: b}) {
			holds(t, api.Ins{Op: op, A: a})
		}
		ops(t, op, op == 1 || op == 3 || op == 4, op == 5 || op == 6)
	})
}
