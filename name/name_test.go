package name_test

import (
	"strings"
	"testing"

	"placket/name"
)

const (
	letters = "abcdefghijklmnopqrstuvwxyz"
	inside  = letters + "0123456789-"
)

// odd are inputs that a check by runes, by blanks or by case would get wrong.
var odd = []string{
	"\x00", "a\x00", "\xff", "a\xff", "\xc3", "\xc3\xa9", "a\xc3\xa9", "\u0661", "a\u0661", "\u2010",
	"\ufeffa", "\u00a0", "\n", "a\n", "\na", "\t", "a\t", "\r\n", "A", "aB", "a_b", "a.b", "a:b",
	"a b", " a", "a ", "a/", "a=", "a\"", "a<", "a>", "a&", "BR", "Br", "br ", " br", "br/", "\u212a",
}

func expect(t *testing.T, call string, s string, got, want bool) {
	t.Helper()
	if got != want {
		t.Errorf("%s(%q): %v, not %v", call, s, got, want)
	}
}

// P1.1: ordinary names, and the chapter's example.
func TestMayOrdinary(t *testing.T) {
	for _, s := range []string{"a", "z", "p", "a1", "a-", "a-1", "h1", "root", "data-x", "a--b", "a1-", "x9z0", "br", "input"} {
		expect(t, "May", s, name.May(s), true)
	}
	for _, s := range append([]string{"", "1a", "-a", "1", "-", "--", "9", "a{", "a`", "`", "{", "@", "a/0", "a:", "a,"}, odd...) {
		expect(t, "May", s, name.May(s), false)
	}
}

// P1.1: 1 to 12 bytes, whatever they are.
func TestMayLength(t *testing.T) {
	for n := 0; n <= 300; n++ {
		s := strings.Repeat("a", n)
		expect(t, "May", s, name.May(s), n >= 1 && n <= 12)
	}
	expect(t, "May", "a0123456789-", name.May("a0123456789-"), true)
	expect(t, "May", "a0123456789-b", name.May("a0123456789-b"), false)
	long := "a" + strings.Repeat("-", 1<<20)
	expect(t, "May", "a---..", name.May(long), false)
}

// P1.1: every byte in front, and at every other place of a name of every length.
func TestMayEveryByte(t *testing.T) {
	for b := 0; b < 256; b++ {
		one := string([]byte{byte(b)})
		for n := 1; n <= 12; n++ {
			for at := 0; at < n; at++ {
				s := strings.Repeat("a", at) + one + strings.Repeat("a", n-at-1)
				from := inside
				if at == 0 {
					from = letters
				}
				expect(t, "May", s, name.May(s), strings.IndexByte(from, byte(b)) >= 0)
			}
		}
	}
}

// P1.1: ordinary texts, and what is none.
func TestTextOrdinary(t *testing.T) {
	for _, s := range []string{"", " ", "~", " ~", "a", "Hello, World!", "a<b>&\"'", "none", "0", "  ", "a\\n"} {
		expect(t, "Text", s, name.Text(s), true)
	}
	for _, s := range []string{"\x1f", "\x7f", "\x80", "\xff", "\x00", "a\nb", "a\t", "\r", "\u00e9", "a\u00e9", "\u4e16", "\xc3"} {
		expect(t, "Text", s, name.Text(s), false)
	}
}

// P1.1: at most 60 bytes, none among them.
func TestTextLength(t *testing.T) {
	for n := 0; n <= 300; n++ {
		for _, one := range []string{" ", "x", "~"} {
			s := strings.Repeat(one, n)
			expect(t, "Text", s, name.Text(s), n <= 60)
		}
	}
	expect(t, "Text", "x..", name.Text(strings.Repeat("x", 1<<20)), false)
}

// P1.1: every byte, alone, in front, in the middle, and at the end; 31, 32, 126 and 127 among them.
func TestTextEveryByte(t *testing.T) {
	for b := 0; b < 256; b++ {
		one := string([]byte{byte(b)})
		for _, s := range []string{one, one + "a", "a" + one, "a" + one + "a", strings.Repeat(one, 60), strings.Repeat("a", 59) + one} {
			expect(t, "Text", s, name.Text(s), b >= 32 && b <= 126)
		}
	}
}

// P1.1: each void tag, and what only looks like one.
func TestVoid(t *testing.T) {
	tags := []string{"br", "hr", "img", "input"}
	for _, tag := range tags {
		expect(t, "Void", tag, name.Void(tag), true)
		near := []string{strings.ToUpper(tag), " " + tag, tag + " ", tag + "\x00", tag + tag, tag[1:], tag[:len(tag)-1], tag + "x"}
		for _, s := range near {
			expect(t, "Void", s, name.Void(s), false)
		}
	}
	// Void in HTML, but not in the document.
	for _, s := range []string{"", "area", "base", "col", "embed", "link", "meta", "param", "source", "track", "wbr", "p", "root", "div", "none"} {
		expect(t, "Void", s, name.Void(s), false)
	}
	for _, s := range odd {
		expect(t, "Void", s, name.Void(s), false)
	}
}

// P1.1: of all names of one and two bytes just br and hr are void, so that no other short tag is.
func TestVoidShort(t *testing.T) {
	for _, a := range letters {
		for _, b := range inside {
			s := string(a) + string(b)
			expect(t, "Void", s, name.Void(s), s == "br" || s == "hr")
		}
		expect(t, "Void", string(a), name.Void(string(a)), false)
	}
}

// names are some of every length, of every byte that a name may have.
func names() []string {
	var l []string
	for n := 1; n <= 12; n++ {
		for i := range letters {
			b := []byte{letters[i]}
			for k := 1; k < n; k++ {
				b = append(b, inside[(i*7+k*11+n)%len(inside)])
			}
			l = append(l, string(b))
		}
	}
	return append(l, "br", "hr", "img", "input", "root", "a-----------", "z99999999999")
}

// P1.2: a name is a text; with a letter behind it, it is a name, if it isn't too long; so is each beginning but the empty one.
func TestNamesFollow(t *testing.T) {
	for _, s := range names() {
		expect(t, "May", s, name.May(s), true)
		expect(t, "Text", s, name.Text(s), true)
		for _, c := range letters {
			longer := s + string(c)
			expect(t, "May", longer, name.May(longer), len(longer) <= 12)
		}
		for n := 0; n <= len(s); n++ {
			expect(t, "May", s[:n], name.May(s[:n]), n > 0)
		}
	}
}

// P1.2: of whatever it is given, what may be a name may be a text.
func TestNameIsText(t *testing.T) {
	all := append(names(), odd...)
	for _, a := range all {
		for _, b := range odd {
			for _, s := range []string{a + b, b + a} {
				if name.May(s) && !name.Text(s) {
					t.Errorf("%q may be a name, but no text", s)
				}
			}
		}
	}
}

// P1, and that nothing is kept: all bytes in pairs, asked twice, answer the same, and none panics.
func TestAnythingTwice(t *testing.T) {
	for i := 0; i < 1<<16; i++ {
		s := string([]byte{byte(i >> 8), byte(i)})
		first := [3]bool{name.May(s), name.Text(s), name.Void(s)}
		again := [3]bool{name.May(s), name.Text(s), name.Void(s)}
		if first != again {
			t.Errorf("%q: %v, then %v", s, first, again)
		}
	}
}

// P1: a goal for go test -fuzz; its seeds run in every test.
func FuzzName(f *testing.F) {
	for _, s := range append(names(), odd...) {
		f.Add(s)
	}
	f.Fuzz(func(t *testing.T, s string) {
		expect(t, "May", s, name.May(s), mayPlain(s))
		expect(t, "Text", s, name.Text(s), len(s) <= 60 && strings.Trim(s, printable()) == "")
		if name.Void(s) && !name.May(s) {
			t.Errorf("%q is void, but no name", s)
		}
	})
}

func mayPlain(s string) bool {
	if len(s) == 0 || len(s) > 12 || strings.IndexByte(letters, s[0]) < 0 {
		return false
	}
	return strings.Trim(s, inside) == ""
}

func printable() string {
	var b []byte
	for c := byte(32); c <= 126; c++ {
		b = append(b, c)
	}
	return string(b)
}
