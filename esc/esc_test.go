package esc_test

import (
	"regexp"
	"strings"
	"testing"

	"placket/esc"
)

// forms are the four signs, and what stands in their places, by the numbers that the chapter tells.
var forms = []struct{ sign, form string }{
	{"\x26", string([]byte{38, 97, 109, 112, 59})},
	{"\x3c", string([]byte{38, 108, 116, 59})},
	{"\x3e", string([]byte{38, 103, 116, 59})},
	{"\x22", string([]byte{38, 113, 117, 111, 116, 59})},
}

// plainPut escapes without the program.
func plainPut(s string) string {
	var b []byte
	for i := 0; i < len(s); i++ {
		one := s[i : i+1]
		for _, f := range forms {
			if one == f.sign {
				one = f.form
				break
			}
		}
		b = append(b, one...)
	}
	return string(b)
}

// put holds Put(s) against want, and that want is got as s.
func put(t *testing.T, s, want string) {
	t.Helper()
	if got := esc.Put(s); got != want {
		t.Errorf("Put(%q): %q, not %q", s, got, want)
	}
	if got, ok := esc.Get(want); !ok || got != s {
		t.Errorf("Get(%q): %q, %v, not %q, true", want, got, ok, s)
	}
}

// refuse expects that s is no text's escaped one.
func refuse(t *testing.T, s string) {
	t.Helper()
	if got, ok := esc.Get(s); ok || got != "" {
		t.Errorf("Get(%q): %q, %v, not none, false", s, got, ok)
	}
}

// P2.1: ordinary texts, and the chapter's example.
func TestOrdinary(t *testing.T) {
	put(t, "a<b", "a\x26\x6c\x74\x3bb")
	put(t, "", "")
	put(t, "a", "a")
	put(t, "Hello, World!", "Hello, World!")
	put(t, "a & b", "a &amp; b")
	put(t, `<p a="1">x</p>`, "&lt;p a=&quot;1&quot;&gt;x&lt;/p&gt;")
	put(t, `&<>"`, "&amp;&lt;&gt;&quot;")
	put(t, `">&<`, "&quot;&gt;&amp;&lt;")
	put(t, "it's", "it's")
	put(t, "amp; lt; gt; quot;", "amp; lt; gt; quot;")
	put(t, ";", ";")
	put(t, "&;", "&amp;;")
}

// P2.1: each sign alone, doubled, in front, at the end, at both ends, and beside each other one.
func TestEachSign(t *testing.T) {
	for _, f := range forms {
		s, e := f.sign, f.form
		put(t, s, e)
		put(t, s+s, e+e)
		put(t, s+"a", e+"a")
		put(t, "a"+s, "a"+e)
		put(t, s+"a"+s, e+"a"+e)
		put(t, "a"+s+"b", "a"+e+"b")
		put(t, s+";", e+";")
		put(t, strings.Repeat(s, 1000), strings.Repeat(e, 1000))
		for _, g := range forms {
			put(t, s+g.sign, e+g.form)
			put(t, s+" "+g.sign, e+" "+g.form)
		}
	}
}

// P2.1: every byte but the signs stays, those from 127 on, 0 and 39 among them, wherever it stands.
func TestEveryByte(t *testing.T) {
	for b := 0; b < 256; b++ {
		one := string([]byte{byte(b)})
		form := plainPut(one)
		if strings.Contains(`&<>"`, one) == (form == one) {
			t.Fatalf("byte %d: %q", b, form)
		}
		put(t, one, form)
		put(t, one+one, form+form)
		put(t, one+"a", form+"a")
		put(t, "a"+one, "a"+form)
		for _, f := range forms {
			put(t, one+f.sign+one, form+f.form+form)
		}
	}
	for _, s := range []string{"'", "''", "\x7f", "\x80", "\xff", "\xc3", "\u00e9", "\u4e16", "\U0001f600", "\ufffd", "\xff\xfe", "\xe4\xb8", "\x00", "\n", "\r\n", "\t", "/", "=", "#", "`", "\u00a0", "\ufeff"} {
		put(t, s, s)
		put(t, s+"<"+s, s+"&lt;"+s)
	}
}

// P2.1: what is escaped already is escaped again, and got back one by one.
func TestAgain(t *testing.T) {
	put(t, "&amp;", "&amp;amp;")
	put(t, "&lt;", "&amp;lt;")
	put(t, "&gt;", "&amp;gt;")
	put(t, "&quot;", "&amp;quot;")
	put(t, "&amp;lt;", "&amp;amp;lt;")
	put(t, "&#39;", "&amp;#39;")
	for _, f := range forms {
		s, n := f.sign, len(f.form)
		for range 20 {
			e := esc.Put(s)
			put(t, s, e)
			if len(e) != n {
				t.Fatalf("%q: %d bytes, not %d", e, len(e), n)
			}
			s, n = e, n+len("amp;")
		}
	}
}

// P2.1: a bare sign is no text's, wherever it stands.
func TestGetBareSign(t *testing.T) {
	for _, f := range forms {
		for _, s := range []string{"", "a", " ", ";", "amp;", "lt;a", f.form, "'", "\xff"} {
			if f.sign != "&" || s != "amp;" && s != "lt;a" {
				refuse(t, f.sign+s)
			}
			refuse(t, s+f.sign)
			refuse(t, s+f.sign+" "+s)
			refuse(t, s+f.sign+f.sign+s)
		}
		for _, g := range forms {
			refuse(t, f.sign+g.form)
			refuse(t, g.form+f.sign)
			refuse(t, g.form+f.sign+g.form)
		}
	}
}

// P2.1: a form that is cut short, ahead of something else, or of nothing.
func TestGetCutShort(t *testing.T) {
	for _, f := range forms {
		for n := 1; n < len(f.form); n++ {
			cut := f.form[:n]
			refuse(t, cut)
			refuse(t, "a"+cut)
			refuse(t, cut+" ")
			refuse(t, cut+" ;")
			refuse(t, f.form+cut)
			for _, g := range forms {
				refuse(t, cut+g.form)
				refuse(t, g.form+cut)
			}
		}
	}
}

// P2.1: a form that runs on, or one byte of which is another one, missing, or there twice.
func TestGetWrongForm(t *testing.T) {
	for _, s := range []string{
		"&ampx;", "&amps;", "&ltt;", "&lte;", "&gtx;", "&quote;", "&quott;", "&amp", "&lt", "&gt", "&quot",
		"&amp:", "&lt:", "&ltgt;", "&ampamp;", "&amp &lt;",
	} {
		refuse(t, s)
		refuse(t, "a"+s+"b")
	}
	for _, f := range forms {
		for at := 1; at < len(f.form); at++ {
			// Twice the last byte is the form, and a byte behind it.
			if at < len(f.form)-1 {
				refuse(t, f.form[:at]+f.form[at:at+1]+f.form[at:])
			}
			refuse(t, f.form[:at]+f.form[at+1:])
			for b := 0; b < 256; b++ {
				if byte(b) != f.form[at] && !(at == 1 && strings.ContainsRune("lg", rune(b)) && len(f.form) == 4) {
					refuse(t, f.form[:at]+string([]byte{byte(b)})+f.form[at+1:])
				}
			}
		}
	}
	// What runs on behind the last byte is a text's.
	put(t, "<;", "&lt;;")
	put(t, "&lt;", "&amp;lt;")
	put(t, "<t;", "&lt;t;")
	put(t, `"quot;`, "&quot;quot;")
}

// P2.1: names and numbers of signs that HTML has, but the document hasn't.
func TestGetOtherNames(t *testing.T) {
	for _, s := range []string{
		"&apos;", "&nbsp;", "&copy;", "&eacute;", "&#39;", "&#38;", "&#60;", "&#x3c;", "&#x26;", "&#;", "&;", "&x;",
		"&AMP;", "&Amp;", "&LT;", "&Lt;", "&GT;", "&QUOT;", "&Quot;", "& amp;", "&amp ;", "&\tlt;", "&\xff;", "&a", "&l", "&g", "&q",
		"&am;", "&l;", "&t;", "&a;", "&quo;", "&&amp;", "&&", "&&&", "&lt&gt;", "&\u00e9;", "\uff06amp;&",
	} {
		refuse(t, s)
		refuse(t, "a"+s)
		refuse(t, s+"a")
		refuse(t, "&amp;"+s)
		refuse(t, s+"&amp;")
	}
}

// P2.1: behind 38 any byte but a form's second one, and of that one any third one but the form's.
func TestGetBehind(t *testing.T) {
	for b := 0; b < 256; b++ {
		one := string([]byte{byte(b)})
		refuse(t, "&"+one)
		refuse(t, "&"+one+";")
		for _, rest := range []string{"", "mp;", "t;", "uot;"} {
			s := "&" + one + rest
			want := s == "&amp;" || s == "&lt;" || s == "&gt;" || s == "&quot;"
			if _, ok := esc.Get(s); ok != want {
				t.Errorf("Get(%q): %v, not %v", s, ok, want)
			}
		}
		for c := 0; c < 256; c++ {
			refuse(t, "&"+one+string([]byte{byte(c)}))
		}
	}
}

// each calls f with all texts of at most n bytes, of those of the letters.
func each(letters string, n int, f func(string)) {
	f("")
	level := []string{""}
	for range n {
		var next []string
		for _, s := range level {
			for i := 0; i < len(letters); i++ {
				next = append(next, s+letters[i:i+1])
				f(next[len(next)-1])
			}
		}
		level = next
	}
}

// P2.1: of all short texts just those are got that are the escaped form of one, and as that one.
func TestGetAllShort(t *testing.T) {
	for _, run := range []struct {
		letters string
		n       int
	}{
		{"&amp;", 7},
		{"&quot;", 6},
		{"&<>\"lgt;", 5},
		{"&lt;", 8},
	} {
		from := map[string]string{}
		each(run.letters, run.n, func(s string) {
			if e := plainPut(s); len(e) <= run.n {
				from[e] = s
			}
		})
		// A sign need not be among the letters of its own form: the texts that have it are told here.
		for _, f := range forms {
			if len(f.form) <= run.n && strings.Trim(f.form, run.letters) == "" {
				each(run.letters+f.sign, run.n-len(f.form)+1, func(s string) {
					if e := plainPut(s); len(e) <= run.n {
						from[e] = s
					}
				})
			}
		}
		each(run.letters, run.n, func(e string) {
			want, is := from[e]
			if got, ok := esc.Get(e); ok != is || got != want {
				t.Errorf("Get(%q): %q, %v, not %q, %v", e, got, ok, want, is)
			}
		})
	}
}

// samples are texts of all sorts, escaped ones and what is no escaped one among them.
func samples() []string {
	l := []string{"", "a", "amp;", "lt;", ";", "'", "\xff", "\xc3", "\xa9", "\u4e16", "&a", "mp;", "&#39;", "& ", "a b", "\x00", "\x7f"}
	for _, f := range forms {
		l = append(l, f.sign, f.form, f.sign+f.form, f.form+f.sign, f.form[1:], f.form[:len(f.form)-1], esc.Put(f.form), "x"+f.sign+"y")
	}
	return l
}

// P2.2: what was put is got; two texts, one behind the other, are escaped as both are.
func TestFollows(t *testing.T) {
	for _, a := range samples() {
		put(t, a, plainPut(a))
		for _, b := range samples() {
			put(t, a+b, esc.Put(a)+esc.Put(b))
			both, ok := esc.Get(esc.Put(a) + esc.Put(b))
			if !ok || both != a+b {
				t.Errorf("%q, %q: got as %q, %v", a, b, both, ok)
			}
		}
	}
}

// P2.2: two texts are never escaped alike; what is got is put as it was.
func TestOneToOne(t *testing.T) {
	seen := map[string]string{}
	for _, a := range samples() {
		for _, b := range samples() {
			s := a + b
			e := esc.Put(s)
			if other, ok := seen[e]; ok && other != s {
				t.Errorf("%q and %q are both escaped as %q", s, other, e)
			}
			seen[e] = s
			if got, ok := esc.Get(s); ok && esc.Put(got) != s {
				t.Errorf("Get(%q): %q, which is put as %q", s, got, esc.Put(got))
			}
		}
	}
}

// P1, and that nothing is kept: all bytes in pairs, asked twice, answer the same, and none panics.
func TestAnythingTwice(t *testing.T) {
	for i := 0; i < 1<<16; i++ {
		s := string([]byte{byte(i >> 8), byte(i)})
		got, ok := esc.Get(s)
		again, okAgain := esc.Get(s)
		if got != again || ok != okAgain || esc.Put(s) != esc.Put(s) {
			t.Errorf("%q: differs when it is asked again", s)
		}
		put(t, s, plainPut(s))
	}
}

// P1: long texts end soon, those that fail late among them.
func TestLong(t *testing.T) {
	const n = 1 << 20
	put(t, strings.Repeat("a", n), strings.Repeat("a", n))
	for _, f := range forms {
		long := strings.Repeat(f.form, n)
		put(t, strings.Repeat(f.sign, n), long)
		refuse(t, long+f.sign)
		refuse(t, long+"&amp")
		refuse(t, f.sign+long)
	}
	refuse(t, strings.Repeat("&", n))
	refuse(t, "&"+strings.Repeat("a", n)+";")
}

// escaped is what an escaped text looks like, for the goal below; (?s) because a text may have line ends.
var escaped = regexp.MustCompile(`(?s)\A(?:[^&<>"]|&amp;|&lt;|&gt;|&quot;)*\z`)

// P1: a goal for go test -fuzz; its seeds run in every test.
func FuzzEsc(f *testing.F) {
	for _, s := range samples() {
		f.Add(s)
	}
	f.Fuzz(func(t *testing.T, s string) {
		put(t, s, plainPut(s))
		got, ok := esc.Get(s)
		if ok != escaped.MatchString(s) {
			t.Errorf("Get(%q): %v", s, ok)
		}
		if ok && plainPut(got) != s || !ok && got != "" {
			t.Errorf("Get(%q): %q, %v", s, got, ok)
		}
	})
}
