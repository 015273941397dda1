package strata

import (
	"slices"
	"strconv"
	"strings"
	"testing"

	"doorman/api"
	"doorman/parse"
)

// parsed is what a text says.
func parsed(t *testing.T, s string) parse.Schema {
	t.Helper()
	schema, e, at := parse.Parse(s)
	if e != api.OK {
		t.Fatalf("%q: %v at %v", s, e, at)
	}
	return schema
}

// shown are edges as a text: each one as from>to, with Not as from-to.
func shown(l []Edge) string {
	var texts []string
	for _, e := range l {
		sign := ">"
		if e.Not {
			sign = "-"
		}
		texts = append(texts, strconv.Itoa(e.From)+sign+strconv.Itoa(e.To))
	}
	return strings.Join(texts, " ")
}

// edges are edges told as a text.
func edges(s string) []Edge {
	var l []Edge
	for _, text := range strings.Fields(s) {
		i := strings.IndexAny(text, ">-")
		from, _ := strconv.Atoi(text[:i])
		to, _ := strconv.Atoi(text[i+1:])
		l = append(l, Edge{from, to, text[i] == '-'})
	}
	return l
}

// holdEdges holds Edges against what is wanted of texts.
func holdEdges(t *testing.T, want map[string]string) {
	t.Helper()
	for text, w := range want {
		if got := shown(Edges(parsed(t, text))); got != w {
			t.Errorf("%q: %v, want %v", text, got, w)
		}
	}
}

// P10.1: the example of the whole, and what the operations are told by.
func TestEdgesOfOperations(t *testing.T) {
	holdEdges(t, map[string]string{
		"":                             "",
		"type t {} type u {}":          "",
		"type t { rel r (r, r, r):; }": "",
		// This: those of the Subs that have a Rel, whatever their type.
		"type t { rel r (r, r, r): t; }":   "",
		"type t { rel r (r, r, r): t#r; }": "0>0",
		"type t { rel r (r, r, r): u#b, t, t#r, u, u#a; } type u { rel a (a, a, a):; rel b (b, b, b):; }": "0>0 0>1 0>2",
		"type t { rel r (r, r, r): t is this; }":                                                          "",
		"type t { rel r (r, r, r): t#r is this; }":                                                        "0>0",
		// Only where there is a This.
		"type t { rel r (r, r, r): t#r is q; rel q (q, q, q):; }": "0>1",
		// Same: that relation of its own type, not what it has besides.
		"type t { rel r (r, r, r): is r; }":                                                "0>0",
		"type t { rel r (r, r, r): is q; rel q (q, q, q): t#q; }":                          "0>1 1>1",
		"type u { rel q (q, q, q):; } type t { rel r (r, r, r): is q; rel q (q, q, q):; }": "1>2",
		"type t { rel r (r, r, r):; rel q (q, q, q): is r; }":                              "1>0",
		// Via: of those types that may stand there as objects; the relation that leads there is none of them.
		"type t { rel r (r, r, r): is q.r; rel q (q, q, q): t; }":                                                                                                                                            "0>0",
		"type t { rel r (r, r, r): is q.a; rel q (q, q, q): u; } type u { rel a (a, a, a):; }":                                                                                                               "0>2",
		"type t { rel r (r, r, r): is q.a; rel q (q, q, q): u, t#r; rel a (a, a, a):; } type u { rel a (a, a, a):; }":                                                                                        "0>3 1>0",
		"type t { rel r (r, r, r): is q.a; rel q (q, q, q): u#b, u, v, w is r; } type u { rel a (a, a, a):; rel b (b, b, b):; } type v { rel b (b, b, b):; rel a (a, a, a):; } type w { rel b (b, b, b):; }": "0>2 0>5 1>0",
		"type t { rel r (r, r, r): t is r.r; }": "0>0",
	})
}

// P10.1
func TestWhatStandsBehindANot(t *testing.T) {
	abcd := func(rewrite string) string {
		return "type t { rel r (r, r, r): t, t#r is " + rewrite + "; rel a (a, a, a):; rel b (b, b, b):; rel c (c, c, c):; rel d (d, d, d):; }"
	}
	holdEdges(t, map[string]string{
		abcd("a | b & c"):               "0>1 0>2 0>3",
		abcd("a - b"):                   "0>1 0-2",
		abcd("b - a"):                   "0-1 0>2",
		abcd("a - b | c"):               "0>1 0-2 0>3",
		abcd("a - b & c - d"):           "0>1 0-2 0>3 0-4",
		abcd("a - (b | c) | d"):         "0>1 0-2 0-3 0>4",
		abcd("(a - b) - (c & d)"):       "0>1 0-2 0-3 0-4",
		abcd("(a | b) - c"):             "0>1 0>2 0-3",
		abcd("a | (b - c)"):             "0>1 0>2 0-3",
		abcd("a | (b - (c | d))"):       "0>1 0>2 0-3 0-4",
		abcd("a - (b & (c | (d | r)))"): "0-0 0>1 0-2 0-3 0-4",
		// What is taken away from what is taken away stands behind a Not, too.
		abcd("a - (b - c)"):       "0>1 0-2 0-3",
		abcd("a - (b - (c - d))"): "0>1 0-2 0-3 0-4",
		// Each kind of operation.
		abcd("a - this"):       "0-0 0>1",
		abcd("this - a"):       "0>0 0-1",
		abcd("a - r.b"):        "0>1 0-2",
		abcd("r.a - b"):        "0>1 0-2",
		abcd("a - (b | r.r)"):  "0-0 0>1 0-2",
		abcd("a - (b | this)"): "0-0 0>1 0-2",
	})
}

// P10.1
func TestEdgesRiseAndStandThereOnce(t *testing.T) {
	holdEdges(t, map[string]string{
		"type t { rel r (r, r, r): is a | a & a; rel a (a, a, a):; }":                                                        "0>1",
		"type t { rel r (r, r, r): is this - a - a; rel a (a, a, a):; }":                                                     "0-1",
		"type t { rel r (r, r, r): is a - a; rel a (a, a, a):; }":                                                            "0>1 0-1",
		"type t { rel r (r, r, r): is r - (a | r) | a; rel a (a, a, a):; }":                                                  "0>0 0-0 0>1 0-1",
		"type t { rel r (r, r, r): t#r, t is r.r | this | r - (r.r | this | r); }":                                           "0>0 0-0",
		"type t { rel r (r, r, r): is c | b | a; rel a (a, a, a): is r; rel b (b, b, b): is c; rel c (c, c, c): is a - r; }": "0>1 0>2 0>3 1>0 2>3 3-0 3>1",
	})
}

// P10.1: as many relations as there may be, each of which is told by the one that stands at the other end of its type, less the first one of its type.
func TestEdgesRiseByNumbers(t *testing.T) {
	var s parse.Schema
	var want []Edge
	for i := range 8 {
		typ := parse.Type{Name: "t" + strconv.Itoa(i)}
		for j := range 12 {
			ops := []parse.Op{{Kind: parse.Same, Name: "r" + strconv.Itoa(11-j)}, {Kind: parse.Same, Name: "r0"}, {Kind: parse.Not}}
			typ.Rels = append(typ.Rels, parse.Rel{Name: "r" + strconv.Itoa(j), View: "r0", Edit: "r0", Check: "r0", Ops: ops})
			first := 12 * i
			other := []Edge{{first + j, first + 11 - j, false}}
			less := []Edge{{first + j, first, true}}
			if j < 11 {
				want = slices.Concat(want, less, other)
			} else {
				want = slices.Concat(want, other, less)
			}
		}
		s.Types = append(s.Types, typ)
	}
	if got := Edges(s); !slices.Equal(got, want) {
		t.Errorf("%v, want %v", shown(got), shown(want))
	}
}

// Rule 1: of schemas that don't hold together, some answer.
func TestEdgesOfWhatDoesntHoldTogether(t *testing.T) {
	for _, text := range []string{
		"type t { rel r (x, x, x): x, x#y, t#x is this | x | x.y | r.x | r - x; }",
		"type t { rel r (r, r, r): t#r; rel r (r, r, r): is r - r; } type t { rel r (r, r, r): is r; }",
	} {
		Edges(parsed(t, text))
	}
	var kinds []parse.Op
	for kind := -2; kind < 10; kind++ {
		kinds = append(kinds, parse.Op{Kind: kind, Name: "r", Next: "r"})
	}
	for _, l := range [][]parse.Op{kinds, slices.Concat(kinds, kinds), kinds[5:], kinds[6:], kinds[8:], {{Kind: parse.Not}}, {{Kind: parse.This}, {Kind: parse.Not}}} {
		r := parse.Rel{Name: "r", Subs: []parse.Sub{{Type: "t", Rel: "r"}, {Type: "t"}, {}}, Ops: l}
		Edges(parse.Schema{Types: []parse.Type{{Name: "t", Rels: []parse.Rel{r, {}}}, {}}})
	}
}

// P10.1: parts that no sign joins are told, too, and what a sign has nothing to stand between is no Not.
func TestEdgesOfOddOperations(t *testing.T) {
	a, not := parse.Op{Kind: parse.Same, Name: "a"}, parse.Op{Kind: parse.Not}
	b := parse.Op{Kind: parse.Same, Name: "b"}
	for _, one := range []struct {
		ops  []parse.Op
		want string
	}{
		{[]parse.Op{a, b}, "0>0 0>1"},
		{[]parse.Op{a, a, b, not}, "0>0 0-1"},
		{[]parse.Op{not, a, b}, "0>0 0>1"},
		{[]parse.Op{not}, ""},
		{[]parse.Op{a, {Kind: 7, Name: "b"}, {Name: "b"}}, "0>0"},
	} {
		s := parse.Schema{Types: []parse.Type{{Name: "t", Rels: []parse.Rel{
			{Name: "a", View: "a", Edit: "a", Check: "a", Ops: one.ops},
			{Name: "b", View: "a", Edit: "a", Check: "a"},
		}}}}
		if got := shown(Edges(s)); got != one.want {
			t.Errorf("%v: %v, want %v", one.ops, got, one.want)
		}
	}
}

// P10.1: a Sub without a Rel is of objects, even where a relation has no name.
func TestEdgesOfARelationWithoutAName(t *testing.T) {
	nameless := parse.Rel{Subs: []parse.Sub{{Type: "t"}}, Ops: []parse.Op{{Kind: parse.This}}}
	if got := shown(Edges(parse.Schema{Types: []parse.Type{{Name: "t", Rels: []parse.Rel{nameless}}}})); got != "" {
		t.Error(got)
	}
}

// Rule 1
func TestEdgesEndHoweverMuchThereIs(t *testing.T) {
	const many = 200000
	r := parse.Rel{Name: "r", Ops: slices.Repeat([]parse.Op{{Kind: parse.Same, Name: "r"}}, many)}
	// Each Not takes all away that the one behind it does.
	r.Ops = append(r.Ops, slices.Repeat([]parse.Op{{Kind: parse.Not}}, many)...)
	q := parse.Rel{Name: "q", Subs: slices.Repeat([]parse.Sub{{Type: "t", Rel: "r"}}, many)}
	q.Ops = []parse.Op{{Kind: parse.This}, {Kind: parse.Via, Name: "q", Next: "r"}, {Kind: parse.Not}}
	s := parse.Schema{Types: []parse.Type{{Name: "t", Rels: []parse.Rel{r, q}}}}
	if got := shown(Edges(s)); got != "0>0 0-0 1>0" {
		t.Error(got)
	}
	s = parse.Schema{Types: []parse.Type{{Name: "t", Rels: slices.Repeat([]parse.Rel{{Name: "r"}}, many)}}}
	s.Types = append(s.Types, slices.Repeat(s.Types[:1], 1)...)
	if got := shown(Edges(s)); got != "" {
		t.Error(got)
	}
}

// P10.2
func TestLevels(t *testing.T) {
	for _, one := range []struct {
		n    int
		l    string
		want []int
		e    api.Errno
	}{
		{0, "", nil, api.OK},
		{1, "", []int{0}, api.OK},
		{3, "", []int{0, 0, 0}, api.OK},
		// The document's example.
		{2, "0-1", []int{1, 0}, api.OK},
		{2, "0-1 1>0", nil, api.ErrCycle},
		{2, "0>1", []int{0, 0}, api.OK},
		{2, "1-0", []int{0, 1}, api.OK},
		{3, "0-1 1-2", []int{2, 1, 0}, api.OK},
		{3, "1-2 0-1", []int{2, 1, 0}, api.OK},
		{3, "0-1 1>2", []int{1, 0, 0}, api.OK},
		{3, "0>1 1-2", []int{1, 1, 0}, api.OK},
		{3, "2-1 1-0", []int{0, 1, 2}, api.OK},
		{4, "0-1 1-2 0>3", []int{2, 1, 0, 0}, api.OK},
		{4, "0-3 1-2 0>1", []int{1, 1, 0, 0}, api.OK},
		{4, "0-3 1-2 0-1", []int{2, 1, 0, 0}, api.OK},
		// The same edge with Not and without it, and twice.
		{2, "0>1 0-1", []int{1, 0}, api.OK},
		{2, "0-1 0-1 0>1 0-1", []int{1, 0}, api.OK},
		// Round.
		{1, "0>0", []int{0}, api.OK},
		{1, "0-0", nil, api.ErrCycle},
		{1, "0>0 0-0", nil, api.ErrCycle},
		{2, "0>1 1>0", []int{0, 0}, api.OK},
		{2, "0>1 1-0", nil, api.ErrCycle},
		{3, "0>1 1>2 2>0", []int{0, 0, 0}, api.OK},
		{3, "0>1 1>2 2-0", nil, api.ErrCycle},
		{3, "0>1 1>2 2>0 0-2", nil, api.ErrCycle},
		// A Not that leads to a ring, or away from one, is in none.
		{4, "0>1 1>0 1-2 2>3 3>2", []int{1, 1, 0, 0}, api.OK},
		{4, "0>1 1>0 1-2 2>3 3>2 3>1", nil, api.ErrCycle},
		{6, "5-4 4>3 3>4 3-2 2>1 1>2 1-0 0>0", []int{0, 1, 1, 2, 2, 3}, api.OK},
		// What is far from where it goes round.
		{5, "4>3 3>2 0-1 1>0", nil, api.ErrCycle},
	} {
		got, e := Levels(one.n, edges(one.l))
		if e != one.e || !slices.Equal(got, one.want) {
			t.Errorf("%v, %v: %v %v, want %v %v", one.n, one.l, got, e, one.want, one.e)
		}
	}
}

// P10.2
func TestWhatLevelsArentToldOf(t *testing.T) {
	round := Edge{0, 0, true}
	for _, one := range []struct {
		n int
		l []Edge
		e api.Errno
	}{
		{-1, nil, api.ErrArg},
		{-1 << 63, nil, api.ErrArg},
		{4096, nil, api.OK},
		{4097, nil, api.ErrArg},
		{1<<63 - 1, nil, api.ErrArg},
		{0, []Edge{{0, 0, false}}, api.ErrArg},
		{1, []Edge{{1, 0, false}}, api.ErrArg},
		{1, []Edge{{0, 1, false}}, api.ErrArg},
		{1, []Edge{{-1, 0, false}}, api.ErrArg},
		{1, []Edge{{0, -1, false}}, api.ErrArg},
		{2, []Edge{{1, 0, true}, {0, 2, true}}, api.ErrArg},
		{4096, []Edge{{4095, 0, true}, {4094, 4095, false}}, api.OK},
		{4096, []Edge{{4096, 0, false}}, api.ErrArg},
		{4096, []Edge{{0, 4096, false}}, api.ErrArg},
		{1, []Edge{{1<<63 - 1, 0, false}}, api.ErrArg},
		{1, []Edge{{0, -1 << 63, false}}, api.ErrArg},
		// Ahead of what goes round, wherever it stands.
		{1, []Edge{round}, api.ErrCycle},
		{1, []Edge{round, {1, 0, false}}, api.ErrArg},
		{1, []Edge{{0, -1, false}, round}, api.ErrArg},
		{-1, []Edge{round}, api.ErrArg},
		{4097, []Edge{round}, api.ErrArg},
	} {
		got, e := Levels(one.n, one.l)
		if e != one.e {
			t.Errorf("%v, %v: %v, want %v", one.n, one.l, e, one.e)
		}
		if e != api.OK && len(got) != 0 || e == api.OK && len(got) != one.n {
			t.Errorf("%v, %v: %v", one.n, one.l, got)
		}
	}
}

// P10.1, P10.2, Rule 3
func TestWhatIsHandedInStays(t *testing.T) {
	s := parsed(t, "type t { rel r (r, r, r): t#q, t#r is r - q | this; rel q (q, q, q):; }")
	again := parsed(t, "type t { rel r (r, r, r): t#q, t#r is r - q | this; rel q (q, q, q):; }")
	l := Edges(s)
	l[0] = Edge{7, 7, true}
	if got := shown(Edges(s)); got != "0>0 0>1 0-1" {
		t.Error(got)
	}
	r, was := s.Types[0].Rels[0], again.Types[0].Rels[0]
	if !slices.Equal(r.Subs, was.Subs) || !slices.Equal(r.Ops, was.Ops) {
		t.Error(r)
	}
	l = edges("2-1 0>2 1>0 0>2")
	if _, e := Levels(3, l); e != api.ErrCycle || shown(l) != "2-1 0>2 1>0 0>2" {
		t.Error(e, l)
	}
	l = edges("2-1 0>2 2-1")
	first, _ := Levels(3, l)
	first[0] = 9
	if got, _ := Levels(3, l); !slices.Equal(got, []int{1, 0, 1}) || shown(l) != "2-1 0>2 2-1" {
		t.Error(got, l)
	}
}

// P10.2, Rule 1
func TestLevelsEndHoweverMuchThereIs(t *testing.T) {
	const n = 4096
	var chain, all []Edge
	for i := range n - 1 {
		chain = append(chain, Edge{i, i + 1, true})
		for j := i + 1; j < n; j += 1 + i/7 {
			all = append(all, Edge{j, i, true})
		}
	}
	hold := func(l []Edge, of func(i int) int) {
		t.Helper()
		got, e := Levels(n, l)
		for i := range n {
			if e != api.OK || got[i] != of(i) {
				t.Fatalf("%v: %v", i, e)
			}
		}
	}
	falling := func(i int) int { return n - 1 - i }
	hold(chain, falling)
	slices.Reverse(chain)
	hold(chain, falling)
	hold(slices.Repeat(chain, 100), falling)
	hold(all, func(i int) int { return i })
	for i := range chain {
		chain[i].Not = false
	}
	chain = append(chain, Edge{n - 1, 0, false})
	hold(chain, func(int) int { return 0 })
	for _, i := range []int{0, 1, n / 2, n - 1} {
		chain[i].Not = true
		if _, e := Levels(n, chain); e != api.ErrCycle {
			t.Error(i, e)
		}
		chain[i].Not = false
	}
}
