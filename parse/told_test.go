package parse

import (
	"math/rand"
	"regexp"
	"slices"
	"strings"
	"testing"

	"doorman/api"
	"doorman/token"
)

// grammar is the chapter's, where `[` and `]` are a rewrite's parentheses.
func grammar() map[string][]string {
	return map[string][]string{
		"SCHEMA":  {"", "type NAME { RELS } SCHEMA"},
		"RELS":    {"", "rel NAME ( NAME , NAME , NAME ) : WHOS IS ; RELS"},
		"WHOS":    {"", "WHO OTHERS"},
		"OTHERS":  {"", ", WHO OTHERS"},
		"WHO":     {"NAME", "NAME # NAME"},
		"IS":      {"", "is REWRITE"},
		"REWRITE": {"PART PARTS"},
		"PARTS":   {"", "| PART PARTS", "& PART PARTS", "- PART PARTS"},
		"PART":    {"this", "NAME", "NAME . NAME", "[ REWRITE ]"},
	}
}

// ways are what may follow, each one a row of the grammar's words.
type ways [][]string

// opened are the ways with each first word that stands for rows put as those.
func (w ways) opened() ways {
	g := grammar()
	var out ways
	for len(w) > 0 {
		one := w[0]
		w = w[1:]
		rows, ok := g[one[0]]
		if !ok {
			out = append(out, one)
		}
		for _, row := range rows {
			w = append(w, slices.Concat(strings.Fields(row), one[1:]))
		}
	}
	return out
}

// past are the ways behind a token.
func (w ways) past(t token.Token) ways {
	var out ways
	for _, one := range w.opened() {
		if fits(one[0], t) {
			out = append(out, one[1:])
		}
	}
	return out
}

// deep is how many of a rewrite's parentheses wait for their ends.
func (w ways) deep() int {
	n := 0
	for _, one := range w {
		waits := 0
		for _, s := range one {
			if s == "]" {
				waits++
			}
		}
		n = max(n, waits)
	}
	return n
}

// fits tells whether a token is what a grammar's word stands for.
func fits(word string, t token.Token) bool {
	switch word {
	case "NAME":
		return t.Kind == token.Word && !slices.Contains([]string{"type", "rel", "is", "this"}, t.Text)
	case "END":
		return t.Kind == token.End
	case "[":
		return t.Text == "("
	case "]":
		return t.Text == ")"
	}
	return t.Text == word
}

// told is Parse's answer as the document tells it: whether it goes on by all ways of the grammar at once, what is said by regular expressions.
func told(s string) answer {
	l, e, at := token.All(s)
	if e != api.OK {
		return bad(e, at)
	}
	w := ways{{"SCHEMA", "END"}}
	var parts []string
	for _, t := range l {
		w = w.past(t)
		if len(w) == 0 {
			return bad(api.ErrSyntax, t.At)
		}
		if w.deep() > 8 {
			return bad(api.ErrLong, t.At)
		}
		parts = append(parts, t.Text)
	}
	return good(said(strings.Join(parts, " "))...)
}

var (
	typeForm = regexp.MustCompile(`type (\S+) \{ ([^{}]*)\}`)
	relForm  = regexp.MustCompile(`rel (\S+) \( (\S+) , (\S+) , (\S+) \) : (.*?)(?:is (.*?))?;`)
	subForm  = regexp.MustCompile(`([^\s,#]+)(?: # (\S+))?`)
	partForm = regexp.MustCompile(`([^\s()|&.-]+)(?: \. (\S+))?`)
	joinForm = regexp.MustCompile(`(^|\( )<([^<>]*)> ([|&-]) <([^<>]*)>`)
	wrapForm = regexp.MustCompile(`\( (<[^<>]*>) \)`)
)

// said is the types of a text that is a schema's, with one blank between all that stands there.
func said(s string) []Type {
	var l []Type
	for _, m := range typeForm.FindAllStringSubmatch(s, -1) {
		t := Type{Name: m[1]}
		for _, m := range relForm.FindAllStringSubmatch(m[2], -1) {
			r := Rel{Name: m[1], View: m[2], Edit: m[3], Check: m[4], Ops: done(strings.TrimSpace(m[6]))}
			for _, m := range subForm.FindAllStringSubmatch(m[5], -1) {
				r.Subs = append(r.Subs, Sub{m[1], m[2]})
			}
			t.Rels = append(t.Rels, r)
		}
		l = append(l, t)
	}
	return l
}

// done is a rewrite's operations: what is told already stands in `<` and `>`, and grows from within.
func done(s string) []Op {
	if s == "" {
		return []Op{{Kind: This}}
	}
	s = partForm.ReplaceAllString(s, "<$1.$2>")
	for old := ""; old != s; {
		old = s
		s = wrapForm.ReplaceAllString(s, "$1")
		s = joinForm.ReplaceAllString(s, "$1<$2 $4 $3>")
	}
	kinds := map[string]int{"|": Or, "&": And, "-": Not, "this.": This}
	var l []Op
	for _, p := range strings.Fields(strings.Trim(s, "<>")) {
		name, next, _ := strings.Cut(p, ".")
		switch {
		case kinds[p] != 0:
			l = append(l, Op{Kind: kinds[p]})
		case next == "":
			l = append(l, Op{Same, name, ""})
		default:
			l = append(l, Op{Via, name, next})
		}
	}
	return l
}

// draw draws texts.
type draw struct{ *rand.Rand }

// of draws one of them.
func (d draw) of(l ...string) string { return l[d.Intn(len(l))] }

// name draws a name.
func (d draw) name() string {
	return d.of("a", "b", "c", "doc", "é", "types", "_", "9", "read", "own", "user", "is_")
}

// list draws some, at most so many, with that between.
func (d draw) list(least, most int, between string, one func() string) string {
	var parts []string
	for range least + d.Intn(most-least+1) {
		parts = append(parts, one())
	}
	return strings.Join(parts, between)
}

// schema draws a schema, with blanks between all that stands there.
func (d draw) schema() string { return d.list(0, 3, " ", d.typ) }

func (d draw) typ() string {
	return "type " + d.name() + " { " + d.list(0, 3, " ", d.relation) + " }"
}

func (d draw) relation() string {
	s := "rel " + d.name() + " ( " + d.list(3, 3, " , ", d.name) + " ) : " + d.list(0, 3, " , ", d.sub)
	if d.Intn(3) > 0 {
		s += " is " + d.rewrite(5)
	}
	return s + " ;"
}

func (d draw) sub() string { return d.name() + d.of("", " # "+d.name()) }

// rewrite draws a rewrite of no more parentheses within each other than so many.
func (d draw) rewrite(deep int) string {
	s := d.part(deep)
	for d.Intn(2) > 0 {
		s += d.of(" | ", " & ", " - ") + d.part(deep)
	}
	return s
}

func (d draw) part(deep int) string {
	if deep > 0 && d.Intn(3) == 0 {
		return "( " + d.rewrite(deep-1) + " )"
	}
	return d.of("this", d.name(), d.name()+" . "+d.name())
}

// spread puts words and signs behind each other, with drawn blanks and notes between.
func (d draw) spread(l []string) string {
	var b strings.Builder
	for i, s := range l {
		if i > 0 && isWord(l[i-1]) && isWord(s) {
			b.WriteString(d.of(" ", "\t", "\n", "//\n"))
		}
		b.WriteString(d.of("", "", " ", "\n\t", "// a ( note\n"))
		b.WriteString(s)
	}
	return b.String() + d.of("", " ", "\n", "//", "// }")
}

// isWord tells whether a word stands there, rather than a sign.
func isWord(s string) bool { return !strings.ContainsAny(s, "{}():,;|&-.#") }

// alphabet are words and signs of all kinds.
func alphabet() []string {
	return strings.Fields("a b type rel is this { } ( ) : , ; | & - . #")
}

// hold holds Parse against what the document tells.
func hold(t *testing.T, s string) {
	t.Helper()
	if got, want := parsed(s), told(s); !same(got, want) {
		t.Fatalf("%q: %v, want %v", s, got, want)
	}
}

// P7.1
func TestParseIsAsTheDocumentTells(t *testing.T) {
	d := draw{rand.New(rand.NewSource(7))}
	for range 3000 {
		hold(t, d.spread(strings.Fields(d.schema())))
	}
}

// P7.1
func TestParseIsAsTheDocumentTellsOfTextsThatAreChanged(t *testing.T) {
	d := draw{rand.New(rand.NewSource(71))}
	for range 4000 {
		l := strings.Fields(d.schema())
		for range 1 + d.Intn(2) {
			at := d.Intn(len(l) + 1)
			to := min(at+d.Intn(2), len(l))
			l = slices.Concat(l[:at], []string{d.of(alphabet()...), d.of(alphabet()...)}[:d.Intn(3)], l[to:])
		}
		hold(t, d.spread(l))
	}
}

// P7.1
func TestParseIsAsTheDocumentTellsBehindEachToken(t *testing.T) {
	l := strings.Fields("type a { rel b ( c , d , e ) : f , g # h is ( this | i ) - j . k ; rel l ( m , n , o ) : ; } type p { }")
	for i := range len(l) + 1 {
		ahead := strings.Join(l[:i], " ")
		hold(t, ahead)
		for _, s := range alphabet() {
			hold(t, ahead+" "+s)
			hold(t, ahead+" "+s+" "+strings.Join(l[i:], " "))
			hold(t, ahead+" "+s+" "+strings.Join(l[min(i+1, len(l)):], " "))
		}
	}
}

// rows are all rows of up to so many of some parts, each with a blank behind it.
func rows(parts []string, most int) []string {
	l := []string{""}
	from := 0
	for range most {
		to := len(l)
		for _, s := range l[from:to] {
			for _, p := range parts {
				l = append(l, s+p+" ")
			}
		}
		from = to
	}
	return l
}

// P7.1
func TestParseIsAsTheDocumentTellsOfAllShortRewrites(t *testing.T) {
	for _, s := range rows([]string{"this", "a", ".", "(", ")", "-"}, 6) {
		hold(t, head+s+tail)
	}
}

// P7.1
func TestParseIsAsTheDocumentTellsOfDeepRewrites(t *testing.T) {
	d := draw{rand.New(rand.NewSource(72))}
	for range 2000 {
		open, shut := 6+d.Intn(5), 6+d.Intn(5)
		s := strings.Repeat("( ", open) + d.rewrite(3) + strings.Repeat(" )", shut)
		hold(t, head+s+d.of("", " - ")+d.of("a", "( a )", "((((((( a )))))))", s)+tail)
	}
}

// P7.1: whatever is handed in, it ends, and doesn't panic.
func TestParseEndsForAllBytes(t *testing.T) {
	const bytes = "abc {}():,;|&-.#\n\t /// abc {}():,;|&-.#=\x00\xff\xc3\xa9"
	d := draw{rand.New(rand.NewSource(73))}
	for range 20000 {
		b := make([]byte, d.Intn(12))
		for i := range b {
			b[i] = bytes[d.Intn(len(bytes))]
		}
		hold(t, d.of("", "type a { ", head, head+"((((((((")+string(b))
	}
}

// sorted is operations in an order that doesn't hang on theirs.
func sorted(l []Op) []string {
	parts := strings.Fields(short(l))
	slices.Sort(parts)
	return parts
}

// P7.2
func TestBlanksChangeNothing(t *testing.T) {
	d := draw{rand.New(rand.NewSource(74))}
	for range 1000 {
		s := d.schema()
		want := parsed(s)
		if want.err != api.OK {
			t.Fatalf("%q: %v", s, want)
		}
		for range 4 {
			expect(t, d.spread(strings.Fields(s)), want)
		}
	}
}

// P7.2
func TestParenthesesChangeNothingButTheOrder(t *testing.T) {
	d := draw{rand.New(rand.NewSource(75))}
	of := func(rewrite string) []Op {
		s, e, _ := Parse(head + rewrite + tail)
		if e != api.OK {
			t.Fatalf("%q: %v", rewrite, e)
		}
		return s.Types[0].Rels[0].Ops
	}
	for range 2000 {
		a, b, c := d.rewrite(3), d.rewrite(3), d.part(3)
		// Around one part, around all, and around the first ones the order stays, too.
		for one, other := range map[string]string{
			c:               "( " + c + " )",
			a + " - " + c:   a + " - ( " + c + " )",
			a:               "( " + a + " )",
			a + " & " + b:   "( " + a + " ) & " + b,
			c + " | " + c:   "( " + c + " | ( " + c + " ) )",
			"( " + a + " )": "( ( " + a + " ) )",
		} {
			if got, want := of(other), of(one); !slices.Equal(got, want) {
				t.Fatalf("%q: %v, %q: %v", other, got, one, want)
			}
		}
		bare, wrapped := of(a+" - "+b+" | "+c), of(a+" - ( "+b+" | "+c+" )")
		if !slices.Equal(sorted(bare), sorted(wrapped)) {
			t.Fatalf("%q, %q, %q: %v, %v", a, b, c, bare, wrapped)
		}
	}
}
