package token

import (
	"math/rand"
	"regexp"
	"slices"
	"strings"
	"testing"
	"unicode/utf8"

	"doorman/api"
	"doorman/glyph"
)

// answer is what All tells.
type answer struct {
	tokens []Token
	err    api.Errno
	at     int
}

// allOf is All's answer.
func allOf(s string) answer {
	l, e, at := All(s)
	return answer{l, e, at}
}

// same tells whether two answers are one; nil and empty lists are one.
func same(a, b answer) bool {
	return slices.Equal(a.tokens, b.tokens) && a.err == b.err && a.at == b.at
}

// bad is the answer of an error.
func bad(e api.Errno, at int) answer { return answer{nil, e, at} }

// good is the answer of tokens.
func good(l ...Token) answer { return answer{l, api.OK, 0} }

// told is All's answer as the document tells it, by regular expressions instead of rune by rune.
func told(s string) answer {
	if len(s) > 2048 {
		return bad(api.ErrLong, 0)
	}
	for at := 0; at < len(s); {
		r, n := utf8.DecodeRuneInString(s[at:])
		if r == utf8.RuneError && n == 1 {
			return bad(api.ErrForm, at)
		}
		at += n
	}
	var l []Token
	at := 0
	for at < len(s) {
		rest := s[at:]
		if n := len(passedForm.FindString(rest)); n > 0 {
			at += n
			continue
		}
		kind, text := Word, wordForm.FindString(rest)
		if text == "" {
			kind, text = Sign, signForm.FindString(rest)
		}
		if text == "" {
			return bad(api.ErrSyntax, at)
		}
		if len([]rune(text)) > 24 {
			return bad(api.ErrName, at)
		}
		l = append(l, Token{kind, text, at})
		at += len(text)
	}
	return good(append(l, Token{End, "", at})...)
}

var (
	passedForm = regexp.MustCompile(`^(?:[ \t\n]|//[^\n]*)`)
	wordForm   = regexp.MustCompile(`^(?:[a-zA-Z0-9_]|[^\x00-\x{a0}])+`)
	signForm   = regexp.MustCompile(`^[{}():,;|&\-.#]`)
)

// P6.1
func TestAll(t *testing.T) {
	for _, c := range []struct {
		s    string
		want answer
	}{
		{"a:é // b", good(Token{Word, "a", 0}, Token{Sign, ":", 1}, Token{Word, "é", 2}, Token{End, "", 9})},
		{"", good(Token{End, "", 0})},
		{" \t\n", good(Token{End, "", 3})},
		{"a", good(Token{Word, "a", 0}, Token{End, "", 1})},
		{" a ", good(Token{Word, "a", 1}, Token{End, "", 3})},
		{"é€\U0001f600_9Z", good(Token{Word, "é€\U0001f600_9Z", 0}, Token{End, "", 12})},
		{"\ufffd", good(Token{Word, "\ufffd", 0}, Token{End, "", 3})}, // the rune that a range tells of a broken byte, too
		{"type this", good(Token{Word, "type", 0}, Token{Word, "this", 5}, Token{End, "", 9})},
		{"a-b", good(Token{Word, "a", 0}, Token{Sign, "-", 1}, Token{Word, "b", 2}, Token{End, "", 3})},
		{"--", good(Token{Sign, "-", 0}, Token{Sign, "-", 1}, Token{End, "", 2})},
		{"1.5", good(Token{Word, "1", 0}, Token{Sign, ".", 1}, Token{Word, "5", 2}, Token{End, "", 3})},
		{"a\tb\nc", good(Token{Word, "a", 0}, Token{Word, "b", 2}, Token{Word, "c", 4}, Token{End, "", 5})},
		{"é\né", good(Token{Word, "é", 0}, Token{Word, "é", 3}, Token{End, "", 5})},
	} {
		if got := allOf(c.s); !same(got, c.want) {
			t.Errorf("%q: %v, want %v", c.s, got, c.want)
		}
	}
}

// P6.1
func TestAllPassesNotes(t *testing.T) {
	for _, c := range []struct {
		s    string
		want answer
	}{
		{"//", good(Token{End, "", 2})},
		{"///", good(Token{End, "", 3})},
		{"//\n", good(Token{End, "", 3})},
		{"//a\nb", good(Token{Word, "b", 4}, Token{End, "", 5})},
		{"//a\n//b", good(Token{End, "", 7})},
		{"//a//b\nc", good(Token{Word, "c", 7}, Token{End, "", 8})},
		{"a//b", good(Token{Word, "a", 0}, Token{End, "", 4})},
		{"a//b\nc", good(Token{Word, "a", 0}, Token{Word, "c", 5}, Token{End, "", 6})},
		{"{//}\n}", good(Token{Sign, "{", 0}, Token{Sign, "}", 5}, Token{End, "", 6})},
		{"// a=b / \r \x00 \u0085 \u00a0 \"@", good(Token{End, "", 21})},
		{"//\r b", good(Token{End, "", 5})}, // no newline
		{"//\u2028b", good(Token{End, "", 6})},
		{"//" + strings.Repeat("a", 99) + "\nb", good(Token{Word, "b", 102}, Token{End, "", 103})},
	} {
		if got := allOf(c.s); !same(got, c.want) {
			t.Errorf("%q: %v, want %v", c.s, got, c.want)
		}
	}
}

// P6.1
func TestAllOfEachByte(t *testing.T) {
	const inWords = "abcdefghijklmnopqrstuvwxyzABCDEFGHIJKLMNOPQRSTUVWXYZ0123456789_"
	for b := range 256 {
		s := string([]byte{byte(b)})
		var want answer
		switch {
		case b > 127:
			want = bad(api.ErrForm, 1)
		case strings.Contains(inWords, s):
			want = good(Token{Word, "a" + s + "a", 0}, Token{End, "", 3})
		case strings.Contains("{}():,;|&-.#", s):
			want = good(Token{Word, "a", 0}, Token{Sign, s, 1}, Token{Word, "a", 2}, Token{End, "", 3})
		case strings.Contains(" \t\n", s):
			want = good(Token{Word, "a", 0}, Token{Word, "a", 2}, Token{End, "", 3})
		default:
			want = bad(api.ErrSyntax, 1)
		}
		if got := allOf("a" + s + "a"); !same(got, want) {
			t.Errorf("%q: %v, want %v", s, got, want)
		}
	}
}

// P6.1
func TestAllOfEachRuneOfTwoBytesOrMore(t *testing.T) {
	for r := rune(128); r <= 0x10ffff; r++ {
		if r == 0xd800 {
			r = 0xe000 // no runes between
		}
		s := string(r)
		want := good(Token{Word, s, 1}, Token{End, "", 1 + len(s)})
		if r <= 160 {
			want = bad(api.ErrSyntax, 1)
		}
		if got := allOf("\n" + s); !same(got, want) {
			t.Fatalf("%q: %v, want %v", s, got, want)
		}
	}
}

// P6.1
func TestAllRefusesMoreBytesThanMayBe(t *testing.T) {
	for _, s := range []string{
		strings.Repeat(" ", 2049),
		strings.Repeat("a ", 1025),
		strings.Repeat("a", 2049),
		strings.Repeat("=", 2049),
		strings.Repeat("\xff", 2049),
		"//" + strings.Repeat("€", 683), // 685 runes
		strings.Repeat(" ", 1<<20),
	} {
		if got := allOf(s); !same(got, bad(api.ErrLong, 0)) {
			t.Errorf("%d bytes: %v", len(s), got)
		}
	}
	for _, c := range []struct {
		s    string
		want answer
	}{
		{strings.Repeat(" ", 2048), good(Token{End, "", 2048})},
		{strings.Repeat(" ", 2047) + "a", good(Token{Word, "a", 2047}, Token{End, "", 2048})},
		{"//" + strings.Repeat("€", 682), good(Token{End, "", 2048})},
		{strings.Repeat(" ", 2047) + "=", bad(api.ErrSyntax, 2047)},
		{strings.Repeat(" ", 2047) + "\xff", bad(api.ErrForm, 2047)},
	} {
		if got := allOf(c.s); !same(got, c.want) {
			t.Errorf("%d bytes: %v, want %v", len(c.s), got, c.want)
		}
	}
	l, e, at := All(strings.Repeat("{", 2048))
	if len(l) != 2049 || e != api.OK || at != 0 || l[2047] != (Token{Sign, "{", 2047}) || l[2048] != (Token{End, "", 2048}) {
		t.Errorf("2048 signs: %d tokens, %v, %d", len(l), e, at)
	}
}

// P6.1
func TestAllRefusesBrokenBytes(t *testing.T) {
	long := strings.Repeat("a", 25)
	for s, at := range map[string]int{
		"\xff":                       0,
		"a\xff":                      1,
		"a\xff\xfe":                  1,
		"\ufffd\xff":                 3,
		"é\xc3":                      2,
		"\xe2\x82":                   0,
		"a \xe2\x82\n":               2,
		"\xed\xa0\x80":               0, // half of a pair
		"\xf4\x90\x80\x80":           0, // above all runes
		"\xc0\x80":                   0, // a 0 of two bytes
		"// \xff":                    3, // in a note, too
		"//\n\xff":                   3,
		"= \xff":                     2, // behind what else is wrong, too
		"/\xff":                      1,
		long + " \xff":               26,
		"= " + long + " // \x80\xff": 31,
		"\u00a0\x80":                 2,
	} {
		if got := allOf(s); !same(got, bad(api.ErrForm, at)) {
			t.Errorf("%q: %v, want place %d", s, got, at)
		}
	}
}

// P6.1
func TestAllRefusesOtherRunes(t *testing.T) {
	for s, at := range map[string]int{
		"=":         0,
		"a=b":       1,
		"a / b":     2,
		"/":         0,
		"a/":        1,
		"/ /":       0,
		"/\n/":      0,
		"a /b// c":  2,
		"//\n/":     3,
		"a\r\nb":    1,
		"a\x00":     1,
		"é\u0080":   2,
		"é \u00a0a": 3,
		"a\v":       1,
		"a\f":       1,
		"\x7f":      0,
		"doc:1@a":   5,
		"\"a\"":     0,
		"a*":        1,
		"a[0]":      1,
		"// =\n= =": 5,
		"a\\b":      1,
		"{a}?!":     3,
	} {
		if got := allOf(s); !same(got, bad(api.ErrSyntax, at)) {
			t.Errorf("%q: %v, want place %d", s, got, at)
		}
	}
}

// P6.1
func TestAllRefusesWordsThatAreTooLong(t *testing.T) {
	for _, one := range []string{"a", "_", "9", "é", "€", "\ufffd", "\U0001f600"} {
		for n := 20; n < 30; n++ {
			w := strings.Repeat(one, n)
			want := good(Token{Sign, "{", 0}, Token{Word, w, 2}, Token{Sign, ":", 2 + len(w)}, Token{End, "", 3 + len(w)})
			if n > 24 {
				want = bad(api.ErrName, 2)
			}
			if got := allOf("{ " + w + ":"); !same(got, want) {
				t.Errorf("%d times %q: %v, want %v", n, one, got, want)
			}
		}
	}
}

// P6.1
func TestAllTellsWhicheverComesFirst(t *testing.T) {
	fit, long := strings.Repeat("é", 24), strings.Repeat("é", 25)
	for _, c := range []struct {
		s    string
		want answer
	}{
		{long, bad(api.ErrName, 0)},
		{"é " + long + " " + long, bad(api.ErrName, 3)},
		{fit + " " + fit + "=", bad(api.ErrSyntax, 97)},
		{long + " =", bad(api.ErrName, 0)},
		{long + "=", bad(api.ErrName, 0)}, // the word's place is ahead
		{"=" + long, bad(api.ErrSyntax, 0)},
		{fit + "/" + long, bad(api.ErrSyntax, 48)},
		{fit + "\u0080" + fit, bad(api.ErrSyntax, 48)},
		{"//" + long + "\n" + long, bad(api.ErrName, 53)},
		{"//" + long + "=", good(Token{End, "", 53})},
		{fit + "//" + fit, good(Token{Word, fit, 0}, Token{End, "", 98})}, // a note parts words
		{fit + "-" + fit, good(Token{Word, fit, 0}, Token{Sign, "-", 48}, Token{Word, fit, 49}, Token{End, "", 97})},
		{strings.Repeat("a", 2048), bad(api.ErrName, 0)},
	} {
		if got := allOf(c.s); !same(got, c.want) {
			t.Errorf("%q: %v, want %v", c.s, got, c.want)
		}
	}
}

// texts are all rows of up to so many parts.
func texts(parts []string, most int) []string {
	l := []string{""}
	from := 0
	for range most {
		to := len(l)
		for _, s := range l[from:to] {
			for _, p := range parts {
				l = append(l, s+p)
			}
		}
		from = to
	}
	return l
}

// small are parts of all kinds, of which any may stand beside any.
func small() []string {
	return []string{"a", "é", "{", "-", "/", " ", "\n", "\r", "\xc3", "abcdefghijklmnopqrstuvwx"}
}

// schemas are texts as they are written, and some that aren't.
func schemas() []string {
	return []string{
		"type t { rel r (r, r, r): t; }",
		"type user{}\ntype doc { // who reads\n\trel own (own, own, own): user;\n\trel read (read, own, read): user, group#m is this | own - (ban & a.b);\n}\n",
		"a|b&c-d.e#f:g,h;(i){j}",
		"//type\ntype // is\nthis",
		"rel rel rel is is",
		"aé9_:é // note\n# x",
	}
}

// P6.1
func TestAllIsAsTheDocumentTells(t *testing.T) {
	for _, s := range slices.Concat(texts(small(), 5), schemas()) {
		if got, want := allOf(s), told(s); !same(got, want) {
			t.Fatalf("%q: %v, want %v", s, got, want)
		}
	}
}

// P6.1
func TestAllIsAsTheDocumentTellsOfLongTexts(t *testing.T) {
	r := rand.New(rand.NewSource(6))
	parts := append(small(), "//", "type", "this", "}", ":", ".", "#", "b", "_", "//", "\t", "€", "=", "\U0001f600")
	for range 5000 {
		var b strings.Builder
		for range r.Intn(60) {
			p := parts[r.Intn(len(parts))]
			// What is wrong stands but rarely, so that some texts go well.
			if (p == "=" || p == "/" || p == "\r" || p == "\xc3") && r.Intn(20) > 0 {
				continue
			}
			b.WriteString(p)
		}
		if got, want := allOf(b.String()), told(b.String()); !same(got, want) {
			t.Fatalf("%q: %v, want %v", b.String(), got, want)
		}
	}
}

// P6.1
func TestAllAnswersInNewMemory(t *testing.T) {
	first, _, _ := All("a b")
	second, _, _ := All("a b")
	for i := range first {
		first[i] = Token{}
	}
	_ = append(first[:1], Token{Text: "x"})
	if !slices.Equal(second, []Token{{Word, "a", 0}, {Word, "b", 2}, {End, "", 3}}) {
		t.Error(second)
	}
}

// P6.2
func TestKey(t *testing.T) {
	for _, s := range []string{"type", "rel", "is", "this"} {
		if !Key(s) {
			t.Errorf("no Key(%q)", s)
		}
		for _, not := range []string{s + " ", " " + s, s + s, s + "\x00", s[1:], s[:len(s)-1], strings.ToUpper(s), strings.ToUpper(s[:1]) + s[1:], s + "_", "\xff" + s} {
			if Key(not) {
				t.Errorf("Key(%q)", not)
			}
		}
	}
	for _, s := range []string{"", "a", "doc", "types", "relation", "that", "{", "|", "\xff", "thi\u0455", strings.Repeat("is", 2000)} {
		if Key(s) {
			t.Errorf("Key(%q)", s)
		}
	}
}

// P6.3
func TestTokensBehindEachOtherAreTheSame(t *testing.T) {
	for _, s := range slices.Concat(texts(small(), 4), schemas()) {
		l, e, _ := All(s)
		if e != api.OK {
			continue
		}
		var parts []string
		for _, w := range l {
			parts = append(parts, w.Text)
		}
		again, e, at := All(strings.Join(parts, " "))
		if e != api.OK || at != 0 || !slices.EqualFunc(l, again, sameButPlace) {
			t.Fatalf("%q: %v, then %v, %v, %d", s, l, again, e, at)
		}
	}
}

// sameButPlace tells whether two tokens are the same, but for their places.
func sameButPlace(a, b Token) bool { return a.Kind == b.Kind && a.Text == b.Text }

// P6.1 and P6.3: what a text's tokens are hangs together with their places.
func TestTokensStandInTheText(t *testing.T) {
	for _, s := range slices.Concat(texts(small(), 4), schemas()) {
		l, e, _ := All(s)
		if e != api.OK {
			continue
		}
		behind := 0
		for i, w := range l {
			if w.At < behind || s[w.At:w.At+len(w.Text)] != w.Text || (w.Kind == End) != (i == len(l)-1) || (w.Kind == Word) != glyph.Name(w.Text) {
				t.Fatalf("%q: %v", s, l)
			}
			behind = w.At + len(w.Text)
		}
	}
}
