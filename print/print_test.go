package print

import (
	"slices"
	"strings"
	"testing"

	"doorman/api"
	"doorman/parse"
)

// head and tail stand around a rewrite, so that it is that of a schema's only relation.
const (
	head = "type t { rel r (v, e, c): is "
	tail = "; }"
)

// ops tells operations written in short: `this`, a name, two names with a `.` between, a sign; with blanks between.
func ops(short string) []parse.Op {
	signs := map[string]int{"this": parse.This, "|": parse.Or, "&": parse.And, "-": parse.Not}
	var l []parse.Op
	for _, s := range strings.Fields(short) {
		name, next, via := strings.Cut(s, ".")
		switch {
		case signs[s] != 0:
			l = append(l, parse.Op{Kind: signs[s]})
		case via:
			l = append(l, parse.Op{Kind: parse.Via, Name: name, Next: next})
		default:
			l = append(l, parse.Op{Kind: parse.Same, Name: name})
		}
	}
	return l
}

// parsed is what a text says.
func parsed(t *testing.T, s string) parse.Schema {
	t.Helper()
	schema, e, at := parse.Parse(s)
	if e != api.OK {
		t.Fatalf("%q: %v at %v", s, e, at)
	}
	return schema
}

// same tells whether two schemas say the same; nil and empty lists are one.
func same(a, b parse.Schema) bool {
	return slices.EqualFunc(a.Types, b.Types, func(a, b parse.Type) bool {
		return a.Name == b.Name && slices.EqualFunc(a.Rels, b.Rels, sameRel)
	})
}

// sameRel tells whether two relations are one.
func sameRel(a, b parse.Rel) bool {
	names := a.Name == b.Name && a.View == b.View && a.Edit == b.Edit && a.Check == b.Check
	return names && slices.Equal(a.Subs, b.Subs) && slices.Equal(a.Ops, b.Ops)
}

// P8.1
func TestRewrite(t *testing.T) {
	for short, want := range map[string]string{
		"this":                               "this",
		"a":                                  "a",
		"a.b":                                "a.b",
		"a.a":                                "a.a",
		"é_9.ß":                              "é_9.ß",
		"thisthis":                           "thisthis",
		"this this |":                        "this | this",
		"a b |":                              "a | b",
		"a b &":                              "a & b",
		"a b -":                              "a - b",
		"a a -":                              "a - a",
		"b a -":                              "b - a",
		"a.b this |":                         "a.b | this",
		"this a.b -":                         "this - a.b",
		"this a.b | c -":                     "this | a.b - c",
		"a b | c |":                          "a | b | c",
		"a b c | |":                          "a | (b | c)",
		"a b & c &":                          "a & b & c",
		"a b c & &":                          "a & (b & c)",
		"a b - c -":                          "a - b - c",
		"a b c - -":                          "a - (b - c)",
		"a b | c &":                          "a | b & c",
		"a b c & |":                          "a | (b & c)",
		"a b & c |":                          "a & b | c",
		"a b c | &":                          "a & (b | c)",
		"a b | c d & -":                      "a | b - (c & d)",
		"a b c - d - -":                      "a - (b - c - d)",
		"a b c d - - -":                      "a - (b - (c - d))",
		"a b - c - d -":                      "a - b - c - d",
		"a b c - - d -":                      "a - (b - c) - d",
		"a b - c d - -":                      "a - b - (c - d)",
		"a b - c d - - e -":                  "a - b - (c - d) - e",
		"a b c | d e | & |":                  "a | (b | c & (d | e))",
		"a b c & - d e & f | | g.h this - &": "a - (b & c) | (d & e | f) & (g.h - this)",
	} {
		if got := Rewrite(ops(short)); got != want {
			t.Errorf("%q: %q, want %q", short, got, want)
		}
	}
}

// P8.1
func TestRewriteOfWhatIsParsed(t *testing.T) {
	for rewrite, want := range map[string]string{
		"(a|b)-(c&d)":            "a | b - (c & d)",
		"(this)":                 "this",
		"((((a))))":              "a",
		"( a . b )":              "a.b",
		"a|(b)":                  "a | b",
		"(a)|b":                  "a | b",
		"(a)&((b.c))-(((this)))": "a & b.c - this",
		"((a|b)|c)|d":            "a | b | c | d",
		"a|(b|(c|d))":            "a | (b | (c | d))",
		"(a-(b))-((c-d))":        "a - b - (c - d)",
		"(((a|b))-c)":            "a | b - c",
		"a // | b\n - \t c":      "a - c",
	} {
		s := parsed(t, head+rewrite+tail)
		if got := Rewrite(s.Types[0].Rels[0].Ops); got != want {
			t.Errorf("%q: %q, want %q", rewrite, got, want)
		}
	}
}

// P8.1
func TestRewriteOfManyAndDeepParts(t *testing.T) {
	many := func(s string, n int) string { return strings.Repeat(s, n) }
	for short, want := range map[string]string{
		"a" + many(" b |", 1000):                       "a" + many(" | b", 1000),
		many("a ", 8) + "b" + many(" -", 8):            many("a - (", 7) + "a - b" + many(")", 7),
		many("a ", 9) + "b" + many(" -", 9):            many("a - (", 8) + "a - b" + many(")", 8),
		many("a ", 9) + "b" + many(" -", 8) + " c | &": "a & (" + many("a - (", 7) + "a - b" + many(")", 7) + " | c)",
		"a" + many(" b c - &", 500):                    "a" + many(" & (b - c)", 500),
		"a" + many(" b.c this | d & -", 300):           "a" + many(" - (b.c | this & d)", 300),
	} {
		if got := Rewrite(ops(short)); got != want {
			t.Errorf("%q: %q, want %q", short, got, want)
		}
	}
}

// P8.2
func TestShow(t *testing.T) {
	for s, want := range map[string]string{
		"":                         "",
		" // type a {}\n":          "",
		"type a{}":                 "type a {\n}\n",
		"type b{}type a{}type b{}": "type b {\n}\ntype a {\n}\ntype b {\n}\n",
		"type é_9 { }":             "type é_9 {\n}\n",
		"type t{rel r(v,e,c):;}":   "type t {\n\trel r (v, e, c):;\n}\n",
		"type t{rel r(r,r,r):;}":   "type t {\n\trel r (r, r, r):;\n}\n",
		// Who may stand there.
		"type t{rel r(v,e,c):u;}":         "type t {\n\trel r (v, e, c): u;\n}\n",
		"type t{rel r(v,e,c):u#m;}":       "type t {\n\trel r (v, e, c): u#m;\n}\n",
		"type t{rel r(v,e,c):u # m , w;}": "type t {\n\trel r (v, e, c): u#m, w;\n}\n",
		"type t{rel r(v,e,c):w,u,w,u#u;}": "type t {\n\trel r (v, e, c): w, u, w, u#u;\n}\n",
		// A rewrite, unless it is this alone.
		"type t{rel r(v,e,c):is this;}":          "type t {\n\trel r (v, e, c):;\n}\n",
		"type t{rel r(v,e,c):is(this);}":         "type t {\n\trel r (v, e, c):;\n}\n",
		"type t{rel r(v,e,c):u is((this));}":     "type t {\n\trel r (v, e, c): u;\n}\n",
		"type t{rel r(v,e,c):is a;}":             "type t {\n\trel r (v, e, c): is a;\n}\n",
		"type t{rel r(v,e,c):is a.b;}":           "type t {\n\trel r (v, e, c): is a.b;\n}\n",
		"type t{rel r(v,e,c):is this|this;}":     "type t {\n\trel r (v, e, c): is this | this;\n}\n",
		"type t{rel r(v,e,c):is(this)-a;}":       "type t {\n\trel r (v, e, c): is this - a;\n}\n",
		"type t{rel r(v,e,c):u,g#m is a-(b&c);}": "type t {\n\trel r (v, e, c): u, g#m is a - (b & c);\n}\n",
		// Relation by relation, type by type.
		"type t{rel r(a,b,c):;rel q(c,b,a):u is q;rel r(a,b,c):;}type u{rel r(r,r,r):;}type w{}": "type t {\n\trel r (a, b, c):;\n\trel q (c, b, a): u is q;\n\trel r (a, b, c):;\n}\ntype u {\n\trel r (r, r, r):;\n}\ntype w {\n}\n",
		"type t{rel r(a,b,c):u,g#m is (a|b)-(c&(this));rel q(a,a,a):;} type u{}":                 "type t {\n\trel r (a, b, c): u, g#m is a | b - (c & this);\n\trel q (a, a, a):;\n}\ntype u {\n}\n",
	} {
		if got := Show(parsed(t, s)); got != want {
			t.Errorf("%q: %q, want %q", s, got, want)
		}
	}
}

// P8.2
func TestShowOfWhatIsMadeByHand(t *testing.T) {
	s := parse.Schema{Types: []parse.Type{
		{Name: "user", Rels: []parse.Rel{}},
		{Name: "doc", Rels: []parse.Rel{
			{Name: "own", View: "read", Edit: "own", Check: "up", Ops: ops("this")},
			{Name: "up", View: "a", Edit: "b", Check: "c", Subs: []parse.Sub{{Type: "doc"}, {Type: "doc", Rel: "own"}}, Ops: ops("own up.own -")},
			{Name: "read", View: "d", Edit: "e", Check: "f", Subs: []parse.Sub{}, Ops: ops("own")},
		}},
	}}
	want := strings.Join([]string{
		"type user {",
		"}",
		"type doc {",
		"\trel own (read, own, up):;",
		"\trel up (a, b, c): doc, doc#own is own - up.own;",
		"\trel read (d, e, f): is own;",
		"}",
		"",
	}, "\n")
	if got := Show(s); got != want {
		t.Errorf("%q, want %q", got, want)
	}
}

// P8.2: that there is more than a schema may have isn't asked here.
func TestShowOfManyOfAll(t *testing.T) {
	many := strings.Repeat
	for s, want := range map[string]string{
		many("type a{}", 256):                                   many("type a {\n}\n", 256),
		"type a{" + many("rel b(c,d,e):f;", 100) + "}":          "type a {\n" + many("\trel b (c, d, e): f;\n", 100) + "}\n",
		"type a{rel b(c,d,e):" + many("f#g,", 450) + "f;}":      "type a {\n\trel b (c, d, e): " + many("f#g, ", 450) + "f;\n}\n",
		"type a{rel b(c,d,e):is a" + many("|b", 900) + ";}":     "type a {\n\trel b (c, d, e): is a" + many(" | b", 900) + ";\n}\n",
		"type a{rel b(c,d,e):is a" + many("&(b-c)", 300) + ";}": "type a {\n\trel b (c, d, e): is a" + many(" & (b - c)", 300) + ";\n}\n",
	} {
		if got := Show(parsed(t, s)); got != want {
			t.Errorf("%q: %q, want %q", s, got, want)
		}
	}
}

// holdShown tells whether what is shown of a schema says the same, and is shown as the same text again.
func holdShown(t *testing.T, s parse.Schema) {
	t.Helper()
	text := Show(s)
	again := parsed(t, text)
	if !same(again, s) {
		t.Fatalf("%q: %v, want %v", text, again, s)
	}
	if got := Show(again); got != text {
		t.Fatalf("%q, then %q", text, got)
	}
}

// P8.3
func TestWhatIsShownSaysTheSame(t *testing.T) {
	for _, s := range []string{
		"",
		"type a{}type a{}",
		"type t{rel r(v,e,c):;rel r(c,e,v):u is this;}",
		"type t { rel r (v, e, c): user, group#m is this | a.b - c; }",
		head + "(a|b)-(c&d)" + tail,
		// As deep as may be.
		head + strings.Repeat("(", 8) + "a" + strings.Repeat(")", 8) + tail,
		head + strings.Repeat("(a-", 8) + "b" + strings.Repeat(")", 8) + tail,
		head + strings.Repeat("a-(", 8) + "b" + strings.Repeat(")", 8) + tail,
		head + strings.Repeat("a-(", 8) + "b|c" + strings.Repeat(")", 8) + tail,
		head + strings.Repeat("a-(", 8) + "b|c" + strings.Repeat(")&this", 8) + tail,
	} {
		holdShown(t, parsed(t, s))
	}
	// What is shown is as long as a text may be that is parsed again.
	long := parsed(t, strings.Repeat("type a{}", 185)+"type abc{}")
	if n := len(Show(long)); n != api.MaxText {
		t.Fatal(n)
	}
	holdShown(t, long)
}

// Rule 1: of what isn't parsed there is some answer, too.
func TestAllEndsForAllOperations(t *testing.T) {
	kinds := []int{-1 << 63, -1, 0, parse.This, parse.Same, parse.Via, parse.Or, parse.And, parse.Not, 7, 1<<63 - 1}
	rows := [][]parse.Op{nil}
	for from := 0; len(rows) < 15000; {
		to := len(rows)
		for _, row := range rows[from:to] {
			for _, k := range kinds {
				rows = append(rows, append(slices.Clone(row), parse.Op{Kind: k, Name: "\xff", Next: "("}))
			}
		}
		from = to
	}
	for _, row := range rows {
		Rewrite(row)
		Show(parse.Schema{Types: []parse.Type{{}, {Rels: []parse.Rel{{}, {Ops: row}}}}})
	}
}

// Rule 1
func TestAllEndsForManyOperations(t *testing.T) {
	const n = 1 << 17
	for _, one := range []string{"a", "this", "a.b", "|", "&", "-", "a |", "a b - |"} {
		row := slices.Repeat(ops(one), n)
		Rewrite(row)
		Rewrite(append(ops("a"), row...))
		Show(parse.Schema{Types: []parse.Type{{Rels: []parse.Rel{{Ops: row}}}}})
	}
	deep := slices.Concat(slices.Repeat(ops("a"), n+1), slices.Repeat(ops("-"), n))
	if got, want := Rewrite(deep), strings.Repeat("a - (", n-1)+"a - a"+strings.Repeat(")", n-1); got != want {
		t.Error(len(got), len(want))
	}
	Rewrite(append(deep, deep...))
}

// roomy is a list with room behind it, in which something stands.
func roomy[T any](l []T, behind T) []T {
	return append(slices.Clone(l), behind, behind, behind)[:len(l)]
}

// Rule 3
func TestWhatIsHandedInStays(t *testing.T) {
	row := roomy(ops("a b.c - this d & |"), parse.Op{Kind: 9, Name: "x"})
	subs := roomy([]parse.Sub{{Type: "u"}, {Type: "g", Rel: "m"}}, parse.Sub{Type: "x"})
	rels := roomy([]parse.Rel{{Name: "r", View: "v", Edit: "e", Check: "c", Subs: subs, Ops: row}}, parse.Rel{Name: "x"})
	types := roomy([]parse.Type{{Name: "t", Rels: rels}}, parse.Type{Name: "x"})
	row0, subs0, rels0, types0 := whole(row), whole(subs), whole(rels), whole(types)
	first, line := Show(parse.Schema{Types: types}), Rewrite(row)
	if !slices.Equal(whole(row), row0) || !slices.Equal(whole(subs), subs0) {
		t.Error(whole(row), whole(subs))
	}
	if !slices.EqualFunc(whole(rels), rels0, sameRel) || !same(parse.Schema{Types: whole(types)}, parse.Schema{Types: types0}) {
		t.Error(whole(rels), whole(types))
	}
	// Rule 4: the same calls have the same answers.
	for range 50 {
		if got := Show(parse.Schema{Types: types}); got != first {
			t.Fatalf("%q, then %q", first, got)
		}
		if got := Rewrite(row); got != line {
			t.Fatalf("%q, then %q", line, got)
		}
	}
}

// whole is a copy of a list with what it has room for.
func whole[T any](l []T) []T { return slices.Clone(l[:cap(l)]) }
