package glyph

import (
	"cmp"
	"math"
	"slices"
	"strings"
	"testing"

	"doorman/api"
)

// row is a rune's first byte, the byte behind it, both from and to, and how many bytes follow these two.
type row struct {
	first, last, low, high byte
	more                   int
}

// rows are the rows of two bytes or more that are runes, as the document tells them.
func rows() []row {
	return []row{
		{194, 223, 128, 191, 0},
		{224, 224, 160, 191, 1},
		{225, 236, 128, 191, 1},
		{238, 239, 128, 191, 1},
		{237, 237, 128, 159, 1},
		{240, 240, 144, 191, 2},
		{241, 243, 128, 191, 2},
		{244, 244, 128, 143, 2},
	}
}

// size is how many bytes the rune has that a text begins with, told from the rows; 0, if its first byte is broken.
func size(s string) int {
	if s[0] <= 127 {
		return 1
	}
	for _, w := range rows() {
		if s[0] < w.first || s[0] > w.last || len(s) < 2+w.more || s[1] < w.low || s[1] > w.high {
			continue
		}
		for i := range w.more {
			if s[2+i] < 128 || s[2+i] > 191 {
				return 0
			}
		}
		return 2 + w.more
	}
	return 0
}

// parts are a text's runes, told from the rows, and whether none is broken.
func parts(s string) ([]string, bool) {
	var l []string
	whole := true
	for len(s) > 0 {
		n := size(s)
		if n == 0 {
			whole, n = false, 1
		}
		l = append(l, s[:n])
		s = s[n:]
	}
	return l, whole
}

// edges are bytes at which a row begins or ends, and some beside and between.
func edges() []byte {
	return []byte{0, '\n', 'a', 127, 128, 143, 144, 159, 160, 191, 192, 193, 194, 223, 224, 225, 236, 237, 238, 239, 240, 241, 243, 244, 245, 255}
}

// texts are all rows of up to four edges, and all of two bytes with up to two that follow.
func texts() []string {
	l := []string{""}
	from := 0
	for range 4 {
		to := len(l)
		for _, s := range l[from:to] {
			for _, b := range edges() {
				l = append(l, s+string([]byte{b}))
			}
		}
		from = to
	}
	for first := range 256 {
		for second := range 256 {
			s := string([]byte{byte(first), byte(second)})
			l = append(l, s, s+"\x80", s+"\xbf\x80", s+"\x85\x9f\xbf")
		}
	}
	return l
}

// P2.1
func TestValidAndCountAreAsTheRowsTell(t *testing.T) {
	for _, s := range texts() {
		l, whole := parts(s)
		if Valid(s) != whole || Count(s) != len(l) {
			t.Fatalf("%q: %v, %d, want %v, %d", s, Valid(s), Count(s), whole, len(l))
		}
	}
}

// P2.1
func TestValidAndCount(t *testing.T) {
	for _, c := range []struct {
		s     string
		valid bool
		count int
	}{
		{"", true, 0},
		{"aé", true, 2},
		{"\x00\n\x7f", true, 3},
		{"\ufffd", true, 1}, // the rune that a range tells of a broken byte, too
		{"\xef\xbf", false, 2},
		{"\ufffd\xff", false, 2},
		{"\xff\ufffd", false, 2},
		{"a\x80b", false, 3},
		{"\xc3", false, 1},
		{"\xc0\x80", false, 2},         // a 0 of two bytes
		{"\xe0\x9f\xbf", false, 3},     // one of three that has two
		{"\xed\xa0\x80", false, 3},     // half of a pair
		{"\xf0\x8f\xbf\xbf", false, 4}, // one of four that has three
		{"\xf4\x90\x80\x80", false, 4}, // above all runes
		{"\U0010ffff", true, 1},
		{"\xf0\x9f\x98", false, 3},
		{"\xf0\x9f\x98a", false, 4},
		{strings.Repeat("é", 3000), true, 3000},
	} {
		if Valid(c.s) != c.valid || Count(c.s) != c.count {
			t.Errorf("%q: %v, %d, want %v, %d", c.s, Valid(c.s), Count(c.s), c.valid, c.count)
		}
	}
}

// P2.1
func TestNameOfEachByte(t *testing.T) {
	const may = "abcdefghijklmnopqrstuvwxyzABCDEFGHIJKLMNOPQRSTUVWXYZ0123456789_"
	for b := range 256 {
		s := string([]byte{byte(b)})
		want := strings.Contains(may, s)
		for _, n := range []string{s, "a" + s, s + "a"} {
			if Name(n) != want {
				t.Errorf("Name(%q): %v", n, !want)
			}
		}
	}
}

// P2.1
func TestNameOfEachRuneOfTwoBytesOrMore(t *testing.T) {
	for r := rune(128); r <= 0x10ffff; r++ {
		if r == 0xd800 {
			r = 0xe000 // no runes between
		}
		s := string(r)
		want := s[0] != 194 || s[1] > 160
		if Name(s) != want || Name("a"+s) != want {
			t.Fatalf("Name(%q): %v", s, !want)
		}
	}
}

// P2.1
func TestNameIsAsLongAsItMayBe(t *testing.T) {
	for _, one := range []string{"a", "_", "é", "€", "\ufffd", "\U0001f600"} {
		for n := range 2 * api.MaxName {
			want := 1 <= n && n <= 24
			if got := Name(strings.Repeat(one, n)); got != want {
				t.Errorf("Name of %d times %q: %v", n, one, got)
			}
		}
	}
}

// P2.1
func TestNameRefuses(t *testing.T) {
	for _, s := range []string{
		"", " ", "a b", "a-b", "a.b", "a\n", "a\x00", "a:b", "a#b", "a@b",
		"\u0080", "\u0085", "\u009f", "\u00a0", "a\u00a0b",
		"\xff", "a\xc3", "\xe2\x82", "\xc2\xff", "\xc1\xbf", "\xed\xa0\x80", "\xf4\x90\x80\x80", "\ufffd\x80",
		strings.Repeat("a", 23) + "\xff", strings.Repeat("a", 24) + "\xff", strings.Repeat("a", 24) + "-",
	} {
		if Name(s) {
			t.Errorf("Name(%q)", s)
		}
	}
	for _, s := range []string{"a", "Z", "0", "9", "_", "a_9Z", "\u00a1", "\u00c2", "ét", "\u2028", "\ufffd", "\U0010ffff"} {
		if !Name(s) {
			t.Errorf("no Name(%q)", s)
		}
	}
}

// P2.2
func TestCut(t *testing.T) {
	for _, c := range []struct {
		s           string
		n           int
		first, rest string
	}{
		{"", 0, "", ""},
		{"", 1, "", ""},
		{"", -1, "", ""},
		{"aéb", 0, "", "aéb"},
		{"aéb", 1, "a", "éb"},
		{"aéb", 2, "aé", "b"},
		{"aéb", 3, "aéb", ""},
		{"aéb", 4, "aéb", ""},
		{"aéb", math.MaxInt, "aéb", ""},
		{"aéb", -1, "", "aéb"},
		{"aéb", math.MinInt, "", "aéb"},
		{"\xe2\x82a", 1, "\xe2", "\x82a"}, // each broken byte is one
		{"\xe2\x82a", 2, "\xe2\x82", "a"},
		{"€\x80", 1, "€", "\x80"},
		{"\ufffd\xff", 1, "\ufffd", "\xff"},
	} {
		first, rest := Cut(c.s, c.n)
		if first != c.first || rest != c.rest {
			t.Errorf("Cut(%q, %d): %q, %q", c.s, c.n, first, rest)
		}
	}
}

// P2.2
func TestCutIsAsTheRowsTell(t *testing.T) {
	for _, s := range texts() {
		l, _ := parts(s)
		for n := -1; n <= len(l)+1; n++ {
			want := strings.Join(l[:min(max(n, 0), len(l))], "")
			first, rest := Cut(s, n)
			if first != want || first+rest != s {
				t.Fatalf("Cut(%q, %d): %q, %q", s, n, first, rest)
			}
		}
	}
}

// P2.2
func TestWhere(t *testing.T) {
	for _, c := range []struct {
		s            string
		at           int
		line, column int
	}{
		{"", 0, 1, 1},
		{"", 5, 1, 1},
		{"", -5, 1, 1},
		{"a\néb", math.MinInt, 1, 1},
		{"a\néb", -1, 1, 1},
		{"a\néb", 0, 1, 1},
		{"a\néb", 1, 1, 2}, // of the newline itself
		{"a\néb", 2, 2, 1},
		{"a\néb", 3, 2, 2}, // within é, that begins ahead
		{"a\néb", 4, 2, 2},
		{"a\néb", 5, 2, 3},
		{"a\néb", 6, 2, 3},
		{"a\néb", math.MaxInt, 2, 3},
		{"\n\n\n", 3, 4, 1},
		{"\n\n\n", 2, 3, 1},
		{"a\r\nb", 4, 2, 2},
		{"a\r\nb", 2, 1, 3},
		{"ab\n", 9, 2, 1},
		{"€", 1, 1, 2}, // within a rune of three bytes, that is one
		{"€", 2, 1, 2},
		{"€", 3, 1, 2},
		{"\U0001f600", 3, 1, 2},
		{"\xe2\x82", 2, 1, 3}, // broken bytes are one by one
		{"\xe2\n\x82", 3, 2, 2},
		{"\u2028\u0085", 5, 1, 3}, // no newlines
	} {
		line, column := Where(c.s, c.at)
		if line != c.line || column != c.column {
			t.Errorf("Where(%q, %d): %d, %d, want %d, %d", c.s, c.at, line, column, c.line, c.column)
		}
	}
}

// P2.2
func TestWhereIsAsTheRowsTell(t *testing.T) {
	for _, s := range texts() {
		l, _ := parts(s)
		for at := -1; at <= len(s)+1; at++ {
			ahead := s[:min(max(at, 0), len(s))]
			wantLine := 1 + strings.Count(ahead, "\n")
			begin := 1 + strings.LastIndexByte(ahead, '\n')
			wantColumn, place := 1, 0
			for _, p := range l {
				if begin <= place && place < len(ahead) {
					wantColumn++
				}
				place += len(p)
			}
			if line, column := Where(s, at); line != wantLine || column != wantColumn {
				t.Fatalf("Where(%q, %d): %d, %d, want %d, %d", s, at, line, column, wantLine, wantColumn)
			}
		}
	}
}

// number is the rune that a valid text of one rune is, told bit by bit.
func number(s string) int {
	if len(s) == 1 {
		return int(s[0])
	}
	n := int(s[0]) & (1<<(7-len(s)) - 1)
	for i := 1; i < len(s); i++ {
		n = n<<6 | int(s[i])&63
	}
	return n
}

// numbers are a text's runes, cut off one by one.
func numbers(s string) []int {
	var l []int
	for s != "" {
		first, rest := Cut(s, 1)
		l = append(l, number(first))
		s = rest
	}
	return l
}

// P2.3
func TestValidTextsStandByBytesAsByRunes(t *testing.T) {
	var l []string
	runes := []string{"\x00", "A", "z", "\x7f", "\u0080", "é", "\u07ff", "\u0800", "\ud7ff", "\ue000", "\ufffd", "\uffff", "\U00010000", "\U0001f600", "\U0010ffff"}
	for _, a := range runes {
		l = append(l, "", a)
		for _, b := range runes {
			l = append(l, a+b, a+"m"+b)
		}
	}
	for _, a := range l {
		if !Valid(a) {
			t.Fatalf("not valid: %q", a)
		}
		for _, b := range l {
			if got, want := slices.Compare(numbers(a), numbers(b)), cmp.Compare(a, b); got != want {
				t.Fatalf("%q and %q: by runes %d, by bytes %d", a, b, got, want)
			}
		}
	}
}
