package code_test

import (
	"fmt"
	"math"
	"math/rand"
	"regexp"
	"slices"
	"strings"
	"testing"

	"placket/api"
	"placket/code"
)

// The ops by their numbers, as the document tells them.
const (
	open     = 1
	closes   = 2
	void     = 3
	text     = 4
	dynamic  = 5
	static   = 6
	skip     = 7
	skipNode = 8
)

func in(op int, a, b string) api.Ins { return api.Ins{Op: op, A: a, B: b} }
func of(l ...api.Ins) []api.Ins      { return l }
func rep(s string, n int) string     { return strings.Repeat(s, n) }
func short(s string) string          { return s[:min(len(s), 200)] }
func shown(l []api.Ins) string       { return short(fmt.Sprintf("%#v", l)) }

// What may be, without the program: an instruction's bytes are one of these, and the first two groups that are there hold its texts.
var (
	inBytes = regexp.MustCompile(`\A(?:\x01(` + names() + `)(` + texts() + `)|[\x02\x07\x08]|\x03(\x02br|\x02hr|\x03img|\x05input)(` + texts() + `)|\x04(` + texts() + `)|[\x05\x06](` + names() + `)(` + texts() + `))`)
	aVoid   = regexp.MustCompile(`\A(?:br|hr|img|input)\z`)
	aName   = regexp.MustCompile(`\A[a-z][a-z0-9-]{0,11}\z`)
	aText   = regexp.MustCompile(`\A[ -~]{0,60}\z`)
)

// names and texts are the forms of those of each length, with it in front.
func names() string {
	var l []string
	for n := 1; n <= 12; n++ {
		l = append(l, fmt.Sprintf(`\x%02x[a-z][a-z0-9-]{%d}`, n, n-1))
	}
	return strings.Join(l, "|")
}

func texts() string {
	l := []string{`\x00`}
	for n := 1; n <= 60; n++ {
		l = append(l, fmt.Sprintf(`\x%02x[ -~]{%d}`, n, n))
	}
	return strings.Join(l, "|")
}

// may tells by the words of layer 11 whether an instruction may be.
func may(i api.Ins) bool {
	switch i.Op {
	case 1:
		return aName.MatchString(i.A) && !aVoid.MatchString(i.A) && aText.MatchString(i.B)
	case 3:
		return aVoid.MatchString(i.A) && aText.MatchString(i.B)
	case 4:
		return aText.MatchString(i.A) && i.B == ""
	case 5, 6:
		return aName.MatchString(i.A) && aText.MatchString(i.B)
	case 2, 7, 8:
		return i.A == "" && i.B == ""
	}
	return false
}

// bytesOf tells a program's bytes, of what may be.
func bytesOf(l []api.Ins) string {
	s := ""
	for _, i := range l {
		switch i.Op {
		case 1, 3, 5, 6:
			s += fmt.Sprintf("%c%c%s%c%s", i.Op, len(i.A), i.A, len(i.B), i.B)
		case 4:
			s += fmt.Sprintf("%c%c%s", 4, len(i.A), i.A)
		default:
			s += fmt.Sprintf("%c", i.Op)
		}
	}
	return s
}

// read tells the program of bytes, or the error.
func read(s string) ([]api.Ins, api.Code) {
	var l []api.Ins
	for s != "" {
		m := inBytes.FindStringSubmatch(s)
		if m == nil {
			return nil, 7
		}
		i, n := api.Ins{Op: int(s[0])}, 0
		for _, group := range m[1:] {
			if group == "" {
				continue
			}
			n++
			if n == 1 {
				i.A = group[1:]
			} else {
				i.B = group[1:]
			}
		}
		// No regular expression of Go's leaves out the void tags.
		if i.Op == open && aVoid.MatchString(i.A) {
			return nil, 7
		}
		if len(l) == 120 {
			return nil, 13
		}
		l, s = append(l, i), s[len(m[0]):]
	}
	return l, 0
}

// puts and gets hold one direction, putsNot and getsNot that it is refused, each as the document tells it.
func puts(t *testing.T, l []api.Ins, want string) {
	t.Helper()
	given := slices.Clone(l)
	if got, err := code.Put(l); string(got) != want || err != nil {
		t.Errorf("Put(%s): %q, %v, not %q", shown(l), short(string(got)), err, short(want))
	}
	if !slices.Equal(given, l) {
		t.Errorf("Put(%s) changed it to %s", shown(given), shown(l))
	}
}

func gets(t *testing.T, s string, want []api.Ins) {
	t.Helper()
	b := []byte(s)
	if got, err := code.Get(b); !slices.Equal(got, want) || err != nil {
		t.Errorf("Get(%q): %s, %v, not %s", short(s), shown(got), err, shown(want))
	}
	if string(b) != s {
		t.Errorf("Get(%q) changed it to %q", short(s), short(string(b)))
	}
}

func putsNot(t *testing.T, l []api.Ins, want api.Code) {
	t.Helper()
	given := slices.Clone(l)
	// Itself, not one that only stands for it.
	if got, err := code.Put(l); err == nil || err != error(want) || got != nil {
		t.Errorf("Put(%s): %q, %v, not %v", shown(l), short(string(got)), err, want)
	}
	if !slices.Equal(given, l) {
		t.Errorf("Put(%s) changed it to %s", shown(given), shown(l))
	}
}

func getsNot(t *testing.T, s string, want api.Code) {
	t.Helper()
	b := []byte(s)
	if got, err := code.Get(b); err == nil || err != error(want) || got != nil {
		t.Errorf("Get(%q): %s, %v, not %v", short(s), shown(got), err, want)
	}
	if string(b) != s {
		t.Errorf("Get(%q) changed it to %q", short(s), short(string(b)))
	}
}

// both holds a program and its bytes against each other.
func both(t *testing.T, s string, l ...api.Ins) {
	t.Helper()
	puts(t, l, s)
	gets(t, s, l)
}

// holdsPut and holdsGet hold any argument against the words told another way, and what follows of it.
func holdsPut(t *testing.T, l []api.Ins) {
	t.Helper()
	for _, i := range l {
		if !may(i) {
			putsNot(t, l, 1)
			return
		}
	}
	if len(l) > 120 {
		putsNot(t, l, 13)
		return
	}
	both(t, bytesOf(l), l...)
}

func holdsGet(t *testing.T, s string) bool {
	t.Helper()
	want, err := read(s)
	if err != 0 {
		getsNot(t, s, err)
		return false
	}
	both(t, s, want...)
	return true
}

// P12.1, P12.3: ordinary ones, each op alone, and the chapter's example.
func TestOrdinary(t *testing.T) {
	both(t, "\x04\x02hi", in(text, "hi", ""))
	both(t, "")
	both(t, "\x01\x01p\x00", in(open, "p", ""))
	both(t, "\x01\x01p\x01k", in(open, "p", "k"))
	both(t, "\x01\x02h1\x05a key", in(open, "h1", "a key"))
	both(t, "\x02", in(closes, "", ""))
	both(t, "\x03\x02br\x00", in(void, "br", ""))
	both(t, "\x03\x05input\x01k", in(void, "input", "k"))
	both(t, "\x04\x00", in(text, "", ""))
	both(t, "\x04\x06<p>&\"~", in(text, "<p>&\"~", ""))
	both(t, "\x05\x01a\x011", in(dynamic, "a", "1"))
	both(t, "\x05\x01a\x00", in(dynamic, "a", ""))
	both(t, "\x06\x05class\x03x y", in(static, "class", "x y"))
	both(t, "\x07", in(skip, "", ""))
	both(t, "\x08", in(skipNode, "", ""))
	both(t, "\x01\x01p\x01k\x05\x01a\x011\x06\x01b\x00\x04\x02hi\x08\x03\x02br\x00\x07\x02\x07",
		in(open, "p", "k"), in(dynamic, "a", "1"), in(static, "b", ""), in(text, "hi", ""), in(skipNode, "", ""), in(void, "br", ""), in(skip, "", ""), in(closes, "", ""), in(skip, "", ""))
	// Whether a program of them may be is another layer's.
	both(t, "\x02\x02\x05\x01a\x00\x07\x08", in(closes, "", ""), in(closes, "", ""), in(dynamic, "a", ""), in(skip, "", ""), in(skipNode, "", ""))
	// No instructions, told in each way.
	for _, l := range [][]api.Ins{nil, {}} {
		if b, err := code.Put(l); len(b) != 0 || err != nil {
			t.Errorf("Put of none: %q, %v", b, err)
		}
	}
	for _, b := range [][]byte{nil, {}} {
		if l, err := code.Get(b); len(l) != 0 || err != nil {
			t.Errorf("Get of none: %s, %v", shown(l), err)
		}
	}
}

// P12.1, P12.3: each length of A and of B, up to where a byte holds it no more.
func TestLengths(t *testing.T) {
	for n := 0; n <= 600; n++ {
		x := rep("x", n)
		for _, op := range []int{open, dynamic, static} {
			for _, b := range []string{"", "k", rep("~", 60)} {
				holdsPut(t, of(in(op, x, b)))
			}
			holdsPut(t, of(in(op, "p", x)))
		}
		holdsPut(t, of(in(void, "img", x)))
		holdsPut(t, of(in(text, x, "")))
		if n > 60 {
			putsNot(t, of(in(text, x, "")), 1)
			putsNot(t, of(in(open, "p", x)), 1)
			putsNot(t, of(in(dynamic, "p", x)), 1)
			putsNot(t, of(in(open, x, "")), 1)
			continue
		}
		both(t, string([]byte{4, byte(n)})+x, in(text, x, ""))
		both(t, "\x03\x02br"+string([]byte{byte(n)})+x+"\x02", in(void, "br", x), in(closes, "", ""))
	}
}

// P12.1: one that may not be is ErrArg, wherever it stands, even where there are too many.
func TestPutErrArg(t *testing.T) {
	bad := of(
		in(0, "", ""), in(9, "", ""), in(-1, "", ""), in(open, "br", ""), in(open, "", ""), in(open, "P", ""), in(open, "p", "\n"), in(open, "p", rep("x", 61)), in(open, rep("x", 13), ""),
		in(closes, "p", ""), in(closes, "", "p"), in(void, "p", ""), in(void, "", ""), in(void, "br", "\x7f"), in(text, "hi", "k"), in(text, "\xff", ""), in(text, rep("x", 61), ""), in(text, rep("x", 256), ""), in(text, rep("x", 258), ""),
		in(dynamic, "", ""), in(dynamic, "1", ""), in(dynamic, "a", "\x80"), in(static, "a b", ""), in(static, "a", rep("x", 300)), in(skip, "p", ""), in(skip, "", "k"), in(skipNode, "p", ""), in(skipNode, "", "k"),
	)
	for _, op := range []int{math.MinInt, math.MaxInt, math.MinInt32, math.MaxInt32, -8, 10, 16, 255, 256, -256, 1 << 32} {
		bad = append(bad, in(op, "", ""), in(op, "p", ""), in(op, "br", ""), in(op, "hi", ""))
	}
	for op := 1; op <= 8; op++ {
		// Ops that are one's as a byte.
		bad = append(bad, in(op+256, "", ""), in(op+256, "p", ""), in(op+256, "br", ""), in(op-256, "p", ""), in(op+1<<32, "", ""), in(-op, "p", ""))
	}
	good := of(in(open, "p", ""), in(text, "hi", ""), in(closes, "", ""))
	for _, x := range bad {
		putsNot(t, of(x), 1)
		for at := range len(good) + 1 {
			putsNot(t, slices.Insert(slices.Clone(good), at, x), 1)
		}
		for _, n := range []int{119, 120, 121, 200} {
			for _, at := range []int{0, 1, n / 2, n - 1} {
				l := slices.Repeat(of(in(skipNode, "", "")), n)
				l[at] = x
				putsNot(t, l, 1)
			}
		}
	}
}

// P12.1: there are at most 120 instructions, of any ops.
func TestPutErrLarge(t *testing.T) {
	for _, i := range of(in(closes, "", ""), in(text, rep("x", 60), ""), in(open, "abcdefghijkl", rep("~", 60)), in(dynamic, "a", "")) {
		for n := 118; n <= 123; n++ {
			l := slices.Repeat(of(i), n)
			if n <= 120 {
				both(t, rep(bytesOf(of(i)), n), l...)
			} else {
				putsNot(t, l, 13)
			}
		}
		for _, n := range []int{240, 256, 376, 1000, 65536} {
			putsNot(t, slices.Repeat(of(i), n), 13)
		}
	}
}

// P12.1: with more than 120 ErrLarge, if one more stands there whole, and may be, whatever is behind it; else ErrForm.
func TestGetErrLarge(t *testing.T) {
	good := []string{"\x02", "\x07", "\x08", "\x04\x00", "\x04\x02hi", "\x01\x01p\x00", "\x03\x02br\x01k", "\x05\x01a\x00", "\x06\x01a\x011", "\x04\x3c" + rep("x", 60)}
	bad := []string{"\x00", "\x09", "\xff", "\x04", "\x04\x02h", "\x04\x01\n", "\x04\x3d" + rep("x", 61), "\x04\xff" + rep("x", 255), "\x01", "\x01\x01p", "\x01\x01p\x01", "\x01\x02br\x00", "\x01\x00\x00", "\x03\x01p\x00", "\x05\x01A\x00", "\x06\x01a\x02x"}
	for _, one := range good {
		full := rep(one, 120)
		if !holdsGet(t, full) {
			t.Errorf("120 of %q are refused", one)
		}
		for _, more := range good {
			getsNot(t, full+more, 13)
			getsNot(t, full+more+more, 13)
			for _, junk := range bad {
				getsNot(t, full+more+junk, 13)
				getsNot(t, full[len(one):]+more+junk, 7)
			}
			getsNot(t, full+rep(more, 1000), 13)
			getsNot(t, full+more+rep("\x00", 5000), 13)
			// Each beginning of one more is none.
			for end := 1; end < len(more); end++ {
				getsNot(t, full+more[:end], 7)
			}
		}
		for _, junk := range bad {
			getsNot(t, full+junk, 7)
			getsNot(t, full[len(one):]+junk, 7)
			getsNot(t, junk+full+one, 7)
			getsNot(t, one+junk+full+full, 7)
		}
	}
}

// P12.1: bytes that end in an instruction are none; those that end behind one are those ahead of it.
func TestGetCut(t *testing.T) {
	l := of(in(open, "div", "key"), in(dynamic, "a", "1"), in(static, "b", ""), in(text, "hello", ""), in(void, "img", "k"), in(text, "", ""), in(skipNode, "", ""), in(closes, "", ""), in(skip, "", ""))
	whole := bytesOf(l)
	ends := map[int]int{}
	for n := range len(l) + 1 {
		ends[len(bytesOf(l[:n]))] = n
	}
	for end := range len(whole) + 1 {
		if n, ok := ends[end]; ok {
			gets(t, whole[:end], l[:n])
		} else {
			getsNot(t, whole[:end], 7)
		}
		// No byte stands between them, in them, or behind them.
		holdsGet(t, whole[:end]+"\x00"+whole[end:])
		holdsGet(t, whole[:end]+"\xff"+whole[end:])
		holdsGet(t, whole[:end]+"x"+whole[end:])
		if end > 0 {
			holdsGet(t, whole[:end-1]+whole[end:])
		}
	}
	for _, junk := range []string{"\x00", "\x09", "x", "\n", "\xff", "\x01", "\x03", "\x04", "\x05", "\x06"} {
		getsNot(t, junk, 7)
		getsNot(t, whole+junk, 7)
		getsNot(t, junk+whole, 7)
	}
}

// P12.1: each byte as an op, and as a length, with more, as many, and fewer bytes behind it.
func TestGetEveryByte(t *testing.T) {
	for c := range 256 {
		one := string([]byte{byte(c)})
		if got := holdsGet(t, one); got != (c == 2 || c == 7 || c == 8) {
			t.Errorf("%d alone is a program: %v", c, got)
		}
		for _, s := range []string{"\x00", "\x00\x00", "\x01p", "\x01p\x00", "\x01p\x01k", "\x02br\x00", "\x02br\x01k", "\x02hi", "\x02", "\x07\x08"} {
			holdsGet(t, one+s)
			holdsGet(t, "\x04\x01x"+one+s)
		}
		for _, n := range []int{0, 1, c - 1, c, c + 1, 255, 300} {
			x := rep("x", max(n, 0))
			holdsGet(t, "\x04"+one+x)
			holdsGet(t, "\x01"+one+x)
			holdsGet(t, "\x01"+one+x+"\x00")
			holdsGet(t, "\x01\x01p"+one+x)
			holdsGet(t, "\x03\x02br"+one+x)
			holdsGet(t, "\x05"+one+x+"\x01v")
			holdsGet(t, "\x06\x01a"+one+x)
			// Ops stand behind what is too short.
			holdsGet(t, "\x04"+one+rep("x", c)+"\x02")
			holdsGet(t, "\x04"+one+rep("\x02", max(n, 0)))
		}
		if s := "\x04" + one + rep("x", c); c > 60 {
			getsNot(t, s, 7)
		} else {
			gets(t, s, of(in(text, rep("x", c), "")))
		}
		// In texts, and names, at each place.
		for at := range 4 {
			x := rep("a", at) + one + rep("a", 3-at)
			holdsGet(t, "\x04\x04"+x)
			holdsGet(t, "\x01\x04"+x+"\x00")
			holdsGet(t, "\x01\x01p\x04"+x)
			holdsGet(t, "\x05\x04"+x+"\x00")
			holdsGet(t, "\x06\x01a\x04"+x)
			holdsGet(t, "\x03\x04"+x+"\x00")
			holdsGet(t, "\x03\x02br\x04"+x)
		}
	}
}

// P12.1: what stands there whole, but may not be by layer 11.
func TestGetMayNot(t *testing.T) {
	for _, tag := range []string{"br", "hr", "img", "input"} {
		n := string([]byte{byte(len(tag))})
		getsNot(t, "\x01"+n+tag+"\x00", 7)
		getsNot(t, "\x01"+n+tag+"\x01k", 7)
		gets(t, "\x03"+n+tag+"\x01k", of(in(void, tag, "k")))
		gets(t, "\x05"+n+tag+"\x01k", of(in(dynamic, tag, "k")))
		gets(t, "\x06"+n+tag+"\x01k", of(in(static, tag, "k")))
		gets(t, "\x04"+n+tag, of(in(text, tag, "")))
	}
	for _, s := range []string{
		"\x01\x00\x00", "\x03\x00\x00", "\x05\x00\x00", "\x06\x00\x00", "\x03\x01p\x00", "\x03\x03div\x00", "\x01\x02P1\x00", "\x01\x011\x00", "\x01\x01-\x00", "\x05\x03a b\x00", "\x06\x02a=\x00",
		"\x01\x01p\x01\n", "\x03\x02br\x01\x7f", "\x04\x01\x1f", "\x04\x02\xc3\xa9", "\x05\x01a\x01\x00", "\x06\x01a\x01\xff", "\x01\x0dabcdefghijklm\x00", "\x05\x0dabcdefghijklm\x00", "\x01\x01p\x3d" + rep("x", 61), "\x04\x3d" + rep("x", 61),
	} {
		getsNot(t, s, 7)
		getsNot(t, "\x02"+s, 7)
		getsNot(t, s+"\x02", 7)
		getsNot(t, "\x04\x01x"+s+rep("\x08", 200), 7)
	}
}

// P12.1, P12.3: all bytes of up to two, and all of up to five over those that instructions are made of.
func TestGetAllShort(t *testing.T) {
	for c := range 256 {
		for d := range 256 {
			holdsGet(t, string([]byte{byte(c), byte(d)}))
		}
	}
	var all func(s string, n int)
	all = func(s string, n int) {
		holdsGet(t, s)
		for i := 0; n > 0 && i < 10; i++ {
			all(s+"\x00\x01\x02\x03\x04\x05\x07pb\x09"[i:i+1], n-1)
		}
	}
	all("", 5)
}

// pool is what programs are made of, at its edges; the last three may not be.
func pool() []api.Ins {
	var l []api.Ins
	for op := 1; op <= 8; op++ {
		for _, a := range []string{"", "p", "br", "input", "abcdefghijkl", "a-1", "hi there", rep("~", 60)} {
			for _, b := range []string{"", "k", "\x20", rep("x", 59), rep("<", 60)} {
				if i := in(op, a, b); may(i) {
					l = append(l, i)
				}
			}
		}
	}
	return append(l, in(0, "", ""), in(text, "x", "k"), in(open, "hr", ""))
}

// P12.1, P12.3: all programs of up to two instructions, and longer ones by chance, some of what may not be.
func TestPrograms(t *testing.T) {
	l := pool()
	for _, i := range l {
		holdsPut(t, of(i))
		for _, j := range l {
			holdsPut(t, of(i, j))
		}
	}
	for seed := range 300 {
		r := rand.New(rand.NewSource(int64(seed)))
		from := l[:len(l)-3]
		if seed%10 == 0 {
			from = l
		}
		var p []api.Ins
		for range r.Intn(130) {
			p = append(p, from[r.Intn(len(from))])
		}
		holdsPut(t, p)
	}
}

// P12.1, P12.3: programs' bytes, with a byte changed, left out, laid between, or cut, are what they are.
func TestChanged(t *testing.T) {
	l := pool()
	for seed := range 2000 {
		r := rand.New(rand.NewSource(int64(seed)))
		var p []api.Ins
		for range 1 + r.Intn(6) {
			p = append(p, l[r.Intn(len(l)-3)])
		}
		b := []byte(bytesOf(p))
		at := r.Intn(len(b))
		switch seed % 4 {
		case 0:
			b[at] = byte(r.Intn(256))
		case 1:
			b[at] = byte(r.Intn(10))
		case 2:
			b = slices.Delete(b, at, at+1)
		case 3:
			b = slices.Insert(b, at, byte(r.Intn(70)))
		}
		holdsGet(t, string(b))
	}
}

// P12.2: what is told is new memory: changing an argument changes no answer, nor an answer another one.
func TestNew(t *testing.T) {
	l := of(in(open, "p", "k"), in(text, "hi", ""), in(closes, "", ""))
	b, _ := code.Put(l)
	c, _ := code.Put(l)
	want := "\x01\x01p\x01k\x04\x02hi\x02"
	for i := range b {
		b[i] = 'x'
	}
	l[0], l[1] = in(skip, "", ""), in(text, "no", "")
	if string(c) != want {
		t.Errorf("Put shares what it told: %q", c)
	}
	b = []byte(want)
	one, _ := code.Get(b)
	two, _ := code.Get(b)
	for i := range b {
		b[i] = 'x'
	}
	for i := range one {
		one[i] = in(static, "z", "z")
	}
	if !slices.Equal(two, of(in(open, "p", "k"), in(text, "hi", ""), in(closes, "", ""))) {
		t.Errorf("Get shares what it told, or was given: %s", shown(two))
	}
}

// P12.2: room behind an argument, or an answer, is nobody else's.
func TestRoom(t *testing.T) {
	l := append(make([]api.Ins, 0, 50), in(text, "hi", ""))
	b, _ := code.Put(l)
	c, _ := code.Put(l)
	_ = append(b, "\x02\x02\x02"...)
	if string(c) != "\x04\x02hi" || !slices.Equal(l[:2], of(in(text, "hi", ""), api.Ins{})) {
		t.Errorf("Put writes behind: %q, %s", c, shown(l[:2]))
	}
	room := append(make([]byte, 0, 50), "\x04\x02hi"...)
	one, _ := code.Get(room)
	two, _ := code.Get(room)
	_ = append(one, in(skip, "", ""), in(skip, "", ""))
	if !slices.Equal(two, of(in(text, "hi", ""))) || string(room[:6]) != "\x04\x02hi\x00\x00" {
		t.Errorf("Get writes behind: %s, %q", shown(two), room[:6])
	}
	// What is behind the bytes isn't read.
	behind := []byte("\x04\x02hi\x02")
	if got, err := code.Get(behind[:3]); err != error(api.ErrForm) || got != nil {
		t.Errorf("Get reads behind: %s, %v", shown(got), err)
	}
}

// That nothing is kept: asked again behind others, each answers the same.
func TestTwice(t *testing.T) {
	good := of(in(open, "p", ""), in(closes, "", ""))
	for range 3 {
		both(t, "\x01\x01p\x00\x02", good...)
		putsNot(t, of(in(open, "br", "")), 1)
		putsNot(t, slices.Repeat(good, 61), 13)
		getsNot(t, rep("\x02", 121), 13)
		getsNot(t, "\x01", 7)
		both(t, rep("\x02", 120), slices.Repeat(of(in(closes, "", "")), 120)...)
	}
}

// P1: much of it.
func TestLong(t *testing.T) {
	getsNot(t, rep("\x00", 1<<20), 7)
	getsNot(t, rep("\x02", 1<<20), 13)
	getsNot(t, rep("\xff", 1<<20), 7)
	getsNot(t, "\x04\xff"+rep("x", 1<<20), 7)
	putsNot(t, of(in(text, rep("x", 1<<20), "")), 1)
	putsNot(t, slices.Repeat(of(in(closes, "", "")), 1<<20), 13)
}

// P1: a goal for go test -fuzz; its seeds run in every test.
func FuzzCode(f *testing.F) {
	l := pool()
	for n, i := range l {
		f.Add([]byte(bytesOf(of(i))), i.Op, i.A, i.B, n)
		f.Add([]byte(bytesOf(of(i, l[len(l)-1-n]))), i.Op, i.B, i.A, 119+n%4)
	}
	f.Fuzz(func(t *testing.T, b []byte, op int, a, s string, n int) {
		holdsGet(t, string(b))
		l := slices.Repeat(of(in(op, a, s)), 1+(n%125+125)%125)
		holdsPut(t, l)
		holdsPut(t, append(slices.Repeat(of(in(closes, "", "")), 1+(n%125+125)%125), l[0]))
	})
}
