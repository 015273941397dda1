package parse

import (
	"fmt"
	"slices"
	"strings"
	"testing"

	"doorman/api"
)

// head and tail stand around a rewrite, so that it is that of a schema's only relation.
const (
	head = "type t { rel r (v, e, c): is "
	tail = "; }"
)

// answer is what Parse tells.
type answer struct {
	schema Schema
	err    api.Errno
	at     int
}

// parsed is Parse's answer.
func parsed(s string) answer {
	schema, e, at := Parse(s)
	return answer{schema, e, at}
}

// good is the answer of types.
func good(l ...Type) answer { return answer{Schema{l}, api.OK, 0} }

// bad is the answer of an error.
func bad(e api.Errno, at int) answer { return answer{Schema{}, e, at} }

// same tells whether two answers are one; nil and empty lists are one.
func same(a, b answer) bool {
	return a.err == b.err && a.at == b.at && slices.EqualFunc(a.schema.Types, b.schema.Types, sameType)
}

// sameType tells whether two types are one.
func sameType(a, b Type) bool { return a.Name == b.Name && slices.EqualFunc(a.Rels, b.Rels, sameRel) }

// sameRel tells whether two relations are one.
func sameRel(a, b Rel) bool {
	names := a.Name == b.Name && a.View == b.View && a.Edit == b.Edit && a.Check == b.Check
	return names && slices.Equal(a.Subs, b.Subs) && slices.Equal(a.Ops, b.Ops)
}

// expect holds Parse's answer of a text against what it is to be.
func expect(t *testing.T, s string, want answer) {
	t.Helper()
	if got := parsed(s); !same(got, want) {
		t.Errorf("%q: %v, want %v", s, got, want)
	}
}

// opsOf is a rewrite's operations in short; else the error, and its place in the rewrite.
func opsOf(rewrite string) string {
	s, e, at := Parse(head + rewrite + tail)
	if e != api.OK {
		return fmt.Sprint(int(e), " at ", at-len(head))
	}
	return short(s.Types[0].Rels[0].Ops)
}

// short tells operations: `this`, a name, two names with a `.` between, a sign; with blanks between.
func short(l []Op) string {
	signs := map[Op]string{{Kind: This}: "this", {Kind: Or}: "|", {Kind: And}: "&", {Kind: Not}: "-"}
	var parts []string
	for _, o := range l {
		s, ok := signs[o]
		switch {
		case ok:
		case o.Kind == Same && o.Name != "" && o.Next == "":
			s = o.Name
		case o.Kind == Via && o.Name != "" && o.Next != "":
			s = o.Name + "." + o.Next
		default:
			s = fmt.Sprint("no operation: ", o)
		}
		parts = append(parts, s)
	}
	return strings.Join(parts, " ")
}

// P7.1
func TestKindsAreNumbered(t *testing.T) {
	if l := []int{This, Same, Via, Or, And, Not}; !slices.Equal(l, []int{1, 2, 3, 4, 5, 6}) {
		t.Error(l)
	}
}

// P7.1
func TestParse(t *testing.T) {
	this := []Op{{Kind: This}}
	for s, want := range map[string]answer{
		"":                              good(),
		" \n\t// type\n":                good(),
		"type a {}":                     good(Type{Name: "a"}),
		"type a{}type b{}type a{}":      good(Type{Name: "a"}, Type{Name: "b"}, Type{Name: "a"}),
		"type é_9{}":                    good(Type{Name: "é_9"}),
		"type types {} type Type {}":    good(Type{Name: "types"}, Type{Name: "Type"}),
		"type a { rel b (c, d, e):; }":  good(Type{"a", []Rel{{"b", "c", "d", "e", nil, this}}}),
		"type a{rel a(a,a,a):is this;}": good(Type{"a", []Rel{{"a", "a", "a", "a", nil, this}}}),
		"type a { rel b (c, d, e): f; rel g (h, i, j): k#l; }": good(Type{"a", []Rel{
			{"b", "c", "d", "e", []Sub{{"f", ""}}, this},
			{"g", "h", "i", "j", []Sub{{"k", "l"}}, this},
		}}),
		"type a { rel b (b, b, b): c, c, c#d, c # d is b; } type e { rel b (x, y, z): is b.b; }": good(
			Type{"a", []Rel{{"b", "b", "b", "b", []Sub{{"c", ""}, {"c", ""}, {"c", "d"}, {"c", "d"}}, []Op{{Same, "b", ""}}}}},
			Type{"e", []Rel{{"b", "x", "y", "z", nil, []Op{{Via, "b", "b"}}}}},
		),
		"type t { rel r (v, e, c): user, group#m is this | a.b - c; }": good(Type{"t", []Rel{{
			"r", "v", "e", "c", []Sub{{"user", ""}, {"group", "m"}},
			[]Op{{Kind: This}, {Via, "a", "b"}, {Kind: Or}, {Same, "c", ""}, {Kind: Not}},
		}}}),
	} {
		expect(t, s, want)
	}
}

// P7.1
func TestRewritesStandAsTheyAreDone(t *testing.T) {
	for rewrite, want := range map[string]string{
		"this":                     "this",
		"a":                        "a",
		"a.b":                      "a.b",
		"a . a":                    "a.a",
		"(this)":                   "this",
		"((a))":                    "a",
		"a | b":                    "a b |",
		"a & b":                    "a b &",
		"a - b":                    "a b -",
		"a | b - c":                "a b | c -",
		"a - b | c":                "a b - c |",
		"a | b & c":                "a b | c &",
		"a & b | c":                "a b & c |",
		"a | (b & c)":              "a b c & |",
		"(a | b) & c":              "a b | c &",
		"a - (b - (c - d))":        "a b c d - - -",
		"((a - b) - c) - d":        "a b - c - d -",
		"a - b - c - d":            "a b - c - d -",
		"(a|b)-(c&d)":              "a b | c d & -",
		"(a) | (b) | (c)":          "a b | c |",
		"this | this - this":       "this this | this -",
		"a.b | (c.d - this) & e":   "a.b c.d this - | e &",
		"a - (b | c.d & this) - e": "a b c.d | this & - e -",
		"thisthis | is_ | rels":    "thisthis is_ | rels |",
		"a // - b\n| c":            "a c |",
	} {
		if got := opsOf(rewrite); got != want {
			t.Errorf("%q: %q, want %q", rewrite, got, want)
		}
	}
}

// P7.1: that there is more than a schema may have isn't told here.
func TestParseTellsManyOfAll(t *testing.T) {
	if got := parsed(strings.Repeat("type a{}", 256)); len(got.schema.Types) != 256 || got.err != api.OK || got.at != 0 {
		t.Error(got)
	}
	if got := parsed("type a {" + strings.Repeat("rel b(c,d,e):f;", 100) + "}"); len(got.schema.Types) != 1 || len(got.schema.Types[0].Rels) != 100 {
		t.Error(got)
	}
	if got := parsed("type a{rel b(c,d,e):" + strings.Repeat("f,", 900) + "f;}"); len(got.schema.Types) != 1 || len(got.schema.Types[0].Rels[0].Subs) != 901 {
		t.Error(got)
	}
	if got, want := opsOf("a"+strings.Repeat("|b", 900)), "a"+strings.Repeat(" b |", 900); got != want {
		t.Error(got)
	}
	if got, want := opsOf("(a)"+strings.Repeat("&(b)", 400)), "a"+strings.Repeat(" b &", 400); got != want {
		t.Error(got)
	}
}

// P7.1
func TestParseTellsTheTokensErrors(t *testing.T) {
	long := strings.Repeat("a", 25)
	deep := head + strings.Repeat("(", 9)
	fit := "type a{}" + strings.Repeat(" ", 2040)
	expect(t, fit, good(Type{Name: "a"}))
	expect(t, fit+" ", bad(api.ErrLong, 0))
	for s, want := range map[string]answer{
		strings.Repeat(" ", 2049): bad(api.ErrLong, 0),
		"type a {} // \xff":       bad(api.ErrForm, 13),
		"type a {}\xff":           bad(api.ErrForm, 9),
		"type a = {}":             bad(api.ErrSyntax, 7),
		"type a {} /":             bad(api.ErrSyntax, 10),
		"type " + long + " {}":    bad(api.ErrName, 5),
		// Those are told ahead of what doesn't go on, wherever they stand.
		"x" + strings.Repeat(" ", 2048):  bad(api.ErrLong, 0),
		"x x\xff":                        bad(api.ErrForm, 3),
		"type type {} /":                 bad(api.ErrSyntax, 13),
		"} " + long:                      bad(api.ErrName, 2),
		deep + "\xff":                    bad(api.ErrForm, len(deep)),
		deep + "a=":                      bad(api.ErrSyntax, len(deep)+1),
		deep + long:                      bad(api.ErrName, len(deep)),
		deep + strings.Repeat("(", 2048): bad(api.ErrLong, 0),
	} {
		expect(t, s, want)
	}
}

// P7.1
func TestParseTellsWhereItDoesNotGoOn(t *testing.T) {
	// A text's place stands at its `!`, which isn't of the text.
	for _, marked := range []string{
		"!x", "!{", "!}", "!;", "!rel", "!is {}", "!this", "!types a {}", "!Type a {}", " // a\n!b",
		"type!", "type !{}", "type !type {}", "type !rel {}", "type !is {}", "type !this {}", "type // a\n !: b",
		"type a!", "type a !b {}", "type a !(", "type a !type b {}", "type a {!", "type a { !{} }", "type a { !b }", "type a { !type b {} }", "type a { !; }", "type a { !this }",
		"type a {} !}", "type a {} !;", "type a {}\n!b // c\n d", "type a {} !rel b (c, d, e):;",
		"type t { rel !}", "type t { rel !rel (b, b, b):; }", "type t { rel !(b, b, b):; }", "type t { rel !", "type t { rel b !}",
		"type t { rel b !: }", "type t { rel b (!) }", "type t { rel b (c!) }", "type t { rel b (c,!) }", "type t { rel b (c !d, e):; }",
		"type t { rel b (c, d!): e; }", "type t { rel b (c, d,!):; }", "type t { rel b (c, d, e!, f):; }", "type t { rel b (c, d, e !;", "type t { rel b (c!#", "type t { rel b (c!#d, e, f):; }",
		"type t { rel b (!is, d, e):; }", "type t { rel b (c, !this, e):; }", "type t { rel b (c, d, !type):; }",
		"type t { rel b (c, d, e)! e; }", "type t { rel b (c, d, e)!; }", "type t { rel b (c, d, e)! is a; }", "type t { rel b (c, d, e):! }", "type t { rel b (c, d, e):!",
		"type t { rel b (c, d, e): !this; }", "type t { rel b (c, d, e): !, f; }", "type t { rel b (c, d, e): f,!; }", "type t { rel b (c, d, e): f, !is a; }", "type t { rel b (c, d, e): f, !this; }",
		"type t { rel b (c, d, e): f !g; }", "type t { rel b (c, d, e): f!.g; }", "type t { rel b (c, d, e): f# !; }", "type t { rel b (c, d, e): f#!rel; }", "type t { rel b (c, d, e): f#g!#h; }", "type t { rel b (c, d, e): !#f; }",
		"type t { rel b (c, d, e): f !| g; }", "type t { rel b (c, d, e): !(f); }", "type t { rel b (c, d, e): f !}", "type t { rel b (c, d, e): f; !; }", "type t { rel b (c, d, e): f; !type",
		"type t { rel b (c, d, e): is a; !is b; }", "type t { rel b (c, d, e): is a;!",
	} {
		at := strings.Index(marked, "!")
		s := strings.Replace(marked, "!", "", 1)
		// Blanks ahead of a token are no place of it.
		at += len(s[at:]) - len(strings.TrimLeft(s[at:], " "))
		expect(t, s, bad(api.ErrSyntax, at))
	}
}

// P7.1
func TestParseTellsWhereARewriteDoesNotGoOn(t *testing.T) {
	for _, marked := range []string{
		"!", "!is a", "!type", "!rel", "!)", "!|a", "!.a", "!- a", "!&", "!#a", "!, a", "!{a}", "!;",
		"a | !", "a & !", "a - !", "a | !| b", "a - !- b", "a - !is", "a | !)", "a |!, b",
		"a.!", "a.!this", "a.!type", "a.!.b", "a.!(b)", "a.b!.c", "a.b !c", "this!.a", "this !this", "this !a", "this !(a)", "(a)!.b", "(a) !b", "(a) !(b)",
		"a !b", "a !this", "a !(b)", "a !is b", "a!#b", "a!, b", "a!: b", "a!)", "(a | b)!)", "a !{", "a !}",
		"(!)", "(!", "(!| a)", "(a!", "(a |!)", "((a)!", "(a!, b)", "(a!; b)", "(this!.a)", "(a.b!.c)", "(a !(", "(a) - (!)",
	} {
		at := strings.Index(marked, "!")
		rewrite := strings.Replace(marked, "!", "", 1)
		if got, want := opsOf(rewrite), fmt.Sprint(30, " at ", at); got != want {
			t.Errorf("%q: %q, want %q", rewrite, got, want)
		}
	}
	// Without what stands behind a rewrite, the place is the end.
	for _, s := range []string{head, head + "a", head + "(", head + "(a", head + "a |", head + "a.", head + "a;", head + "((((((((", head + "((((((((a))))))))"} {
		expect(t, s, bad(api.ErrSyntax, len(s)))
		expect(t, s+" \n// "+tail, bad(api.ErrSyntax, len(s)+5+len(tail)))
	}
}

// P7.1
func TestParenthesesWithinEachOther(t *testing.T) {
	open, shut := strings.Repeat("(", 8), strings.Repeat(")", 8)
	for rewrite, want := range map[string]string{
		open[:7] + "a" + shut[:7]:                             "a",
		open + "a" + shut:                                     "a",
		open + "a.b - this" + shut:                            "a.b this -",
		open + "(a)" + shut:                                   "13 at 8",
		open + " (a)" + shut:                                  "13 at 9",
		open + "a | b & (c)" + shut:                           "13 at 16",
		open + "a" + shut + "|" + open + "b" + shut:           "a b |",
		open + "a" + shut + "|" + open + "(b)" + shut:         "13 at 26",
		open[:7] + "(a) | (b) & (c)" + shut[:7]:               "a b | c &",
		open[:7] + "(a) | (b) & ((c))" + shut[:7]:             "13 at 20",
		strings.Repeat("(a) |", 20) + "b":                     "a" + strings.Repeat(" a |", 19) + " b |",
		strings.Repeat("a - (", 8) + "b" + shut:               strings.Repeat("a ", 8) + "b" + strings.Repeat(" -", 8),
		strings.Repeat("a - (", 9) + "b" + shut + ")":         "13 at 44",
		strings.Repeat("(", 1000):                             "13 at 8",
		strings.Repeat("(", 1000) + strings.Repeat(")", 1000): "13 at 8",
		// Whichever comes first.
		open + "(|":                          "13 at 8",
		open + "(":                           "13 at 8",
		open + "|(":                          "30 at 8",
		open + ")((((((((((":                 "30 at 8",
		open + "a(":                          "30 at 9", // of no rewrite
		open + "a.(":                         "30 at 10",
		"(a b)" + open + "(":                 "30 at 3",
		open + "a" + shut + ") | ((((((((((": "30 at 17",
	} {
		if got := opsOf(rewrite); got != want {
			t.Errorf("%q: %q, want %q", rewrite, got, want)
		}
	}
	expect(t, "type t { rel r ((((((((((", bad(api.ErrSyntax, 16))
	expect(t, "type t { rel r (v, e, c): (((((((((", bad(api.ErrSyntax, 26))
	expect(t, "(((((((((", bad(api.ErrSyntax, 0))
	// Each rewrite counts its own.
	one := "rel r (v, e, c): is " + open + "a" + shut + ";"
	if got := parsed("type t {" + one + one + "} type u {" + one + "}"); len(got.schema.Types) != 2 || got.err != api.OK {
		t.Error(got)
	}
	expect(t, "type t {"+one+one+"} type u {"+head[9:]+open+" (", bad(api.ErrLong, 8+2*len(one)+10+len(head)-9+9))
}

// P7.1
func TestParseAnswersInNewMemory(t *testing.T) {
	const s = "type a { rel b (c, d, e): f, g, h#i is a | b - c; rel j (k, l, m): n is (a & b) | this; rel o (p, q, r): s; } type t {} type u { rel v (w, x, y): ; }"
	first, second, want := parsed(s), parsed(s), parsed(s)
	for i := range first.schema.Types {
		rels := first.schema.Types[i].Rels
		for j := range rels {
			spoil(rels[j].Subs, Sub{"x", "x"})
			spoil(rels[j].Ops, Op{9, "x", "x"})
		}
		spoil(rels, Rel{Name: "x"})
	}
	spoil(first.schema.Types, Type{Name: "x"})
	if !same(second, want) {
		t.Error(second)
	}
	// What is put behind one list of an answer is in no other list of it.
	for i := range second.schema.Types {
		rels := second.schema.Types[i].Rels
		_ = append(rels, Rel{Name: "x"})
		for j := range rels {
			_ = append(rels[j].Subs, Sub{"x", "x"}, Sub{"x", "x"})
			_ = append(rels[j].Ops, Op{9, "x", "x"}, Op{9, "x", "x"})
		}
	}
	if !same(second, want) {
		t.Error(second)
	}
}

// spoil changes all of a list, and what it has room for.
func spoil[T any](l []T, with T) {
	l = l[:cap(l)]
	for i := range l {
		l[i] = with
	}
}
