package check

import (
	"slices"
	"strconv"
	"strings"
	"testing"

	"doorman/api"
	"doorman/parse"
)

// parsed is what a text says.
func parsed(t *testing.T, s string) parse.Schema {
	t.Helper()
	schema, e, at := parse.Parse(s)
	if e != api.OK {
		t.Fatalf("%q: %v at %v", s, e, at)
	}
	return schema
}

// sameRel tells whether two relations are one; nil and empty lists are.
func sameRel(a, b parse.Rel) bool {
	names := a.Name == b.Name && a.View == b.View && a.Edit == b.Edit && a.Check == b.Check
	return names && slices.Equal(a.Subs, b.Subs) && slices.Equal(a.Ops, b.Ops)
}

// sameType tells whether two types are one.
func sameType(a, b parse.Type) bool {
	return a.Name == b.Name && slices.EqualFunc(a.Rels, b.Rels, sameRel)
}

// answer is what is told of a schema.
type answer struct {
	e  api.Errno
	at string
}

// checked is what Check tells.
func checked(s parse.Schema) answer {
	e, at := Check(s)
	return answer{e, at}
}

// holdAll holds Check against what is wanted of texts.
func holdAll(t *testing.T, want map[string]answer) {
	t.Helper()
	for text, w := range want {
		if got := checked(parsed(t, text)); got != w {
			t.Errorf("%q: %v, want %v", text, got, w)
		}
	}
}

// plain are relations without anything but their names, each of which sees, changes and checks itself.
func plain(names ...string) []parse.Rel {
	var l []parse.Rel
	for _, n := range names {
		l = append(l, parse.Rel{Name: n, View: n, Edit: n, Check: n, Ops: []parse.Op{{Kind: parse.This}}})
	}
	return l
}

// numbered are so many names.
func numbered(name string, n int) []string {
	var l []string
	for i := range n {
		l = append(l, name+strconv.Itoa(i))
	}
	return l
}

// types are types without relations.
func types(names ...string) []parse.Type {
	var l []parse.Type
	for _, n := range names {
		l = append(l, parse.Type{Name: n})
	}
	return l
}

// sub is a Sub.
func sub(typ, rel string) parse.Sub { return parse.Sub{Type: typ, Rel: rel} }

// op is an operation.
func op(kind int, name, next string) parse.Op { return parse.Op{Kind: kind, Name: name, Next: next} }

// P9.1
func TestFind(t *testing.T) {
	s := parsed(t, strings.Join([]string{
		"type t { rel r (a, b, c): u, t#r is this | r.r; rel q (r, r, r):; rel r (q, q, q): t; }",
		"type u {}",
		"type t { rel p (p, p, p):; }",
		"type v { rel p (r, q, p): w is x; }",
	}, "\n"))
	for _, one := range []struct {
		typ, rel string
		want     parse.Rel
		ok       bool
	}{
		{"t", "r", s.Types[0].Rels[0], true},
		{"t", "q", s.Types[0].Rels[1], true},
		{"v", "p", s.Types[3].Rels[0], true},
		// Of the first type of that name alone.
		{"t", "p", parse.Rel{}, false},
		{"u", "r", parse.Rel{}, false},
		{"v", "r", parse.Rel{}, false},
		{"w", "p", parse.Rel{}, false},
		{"t", "", parse.Rel{}, false},
		{"", "r", parse.Rel{}, false},
		{"", "", parse.Rel{}, false},
		{"T", "r", parse.Rel{}, false},
		{"t", "rr", parse.Rel{}, false},
		{"t.r", "", parse.Rel{}, false},
		{"r", "t", parse.Rel{}, false},
	} {
		got, ok := Find(s, one.typ, one.rel)
		if ok != one.ok || !sameRel(got, one.want) {
			t.Errorf("%v.%v: %v %v, want %v %v", one.typ, one.rel, got, ok, one.want, one.ok)
		}
	}
}

// P9.1: whether a schema holds together isn't asked.
func TestFindInWhatIsMadeByHand(t *testing.T) {
	many := parse.Schema{Types: types(numbered("t", 100)...)}
	many.Types[99].Rels = plain(numbered("r", 100)...)
	odd := parse.Schema{Types: []parse.Type{{Rels: []parse.Rel{{View: "a"}, {View: "b"}}}, {Rels: plain("r")}}}
	for _, one := range []struct {
		s        parse.Schema
		typ, rel string
		want     parse.Rel
		ok       bool
	}{
		{parse.Schema{}, "t", "r", parse.Rel{}, false},
		{parse.Schema{}, "", "", parse.Rel{}, false},
		{many, "t99", "r99", plain("r99")[0], true},
		{many, "t98", "r99", parse.Rel{}, false},
		{many, "t100", "r99", parse.Rel{}, false},
		{odd, "", "", parse.Rel{View: "a"}, true},
		{odd, "", "r", parse.Rel{}, false},
	} {
		got, ok := Find(one.s, one.typ, one.rel)
		if ok != one.ok || !sameRel(got, one.want) {
			t.Errorf("%v.%v: %v %v, want %v %v", one.typ, one.rel, got, ok, one.want, one.ok)
		}
	}
}

// P9.1, Rule 3
func TestWhatIsFoundIsNewMemory(t *testing.T) {
	s := parse.Schema{Types: []parse.Type{{Name: "t", Rels: []parse.Rel{{
		Name: "r",
		Subs: append(make([]parse.Sub, 0, 9), parse.Sub{Type: "u"}),
		Ops:  append(make([]parse.Op, 0, 9), parse.Op{Kind: parse.Same, Name: "q"}),
	}}}}}
	r := &s.Types[0].Rels[0]
	got, _ := Find(s, "t", "r")
	got.Subs[0].Type, got.Ops[0].Name = "x", "x"
	_, _ = append(got.Subs, parse.Sub{Type: "x"}), append(got.Ops, parse.Op{Name: "x"})
	if r.Subs[0].Type != "u" || r.Ops[0].Name != "q" || r.Subs[:2][1].Type != "" || r.Ops[:2][1].Name != "" {
		t.Error(r.Subs[:2], r.Ops[:2])
	}
	again, _ := Find(s, "t", "r")
	if again.Subs[0].Type != "u" || again.Ops[0].Name != "q" {
		t.Error(again)
	}
}

// P9.2, P9.3
func TestWhatHoldsTogether(t *testing.T) {
	for _, text := range []string{
		"",
		"type t {}",
		"type t {} type u {}",
		"type t { rel r (r, r, r):; }",
		// What stands behind is there, too.
		"type t { rel a (b, c, d):; rel b (a, a, a):; rel c (b, b, b):; rel d (d, d, d):; }",
		"type t { rel r (r, r, r): u, u#s, t#r, t; } type u { rel s (s, s, s):; }",
		// Two types may have relations of one name.
		"type t { rel r (r, r, r):; } type u { rel r (r, r, r):; } type r { rel t (t, t, t): r#t; }",
		"type t { rel r (r, r, r): t, t#r, u, u#r; } type u { rel r (r, r, r):; }",
		// Operations.
		"type t { rel r (r, r, r): is r; }",
		"type t { rel r (r, r, r): is q; rel q (r, r, r): is r - q; }",
		"type t { rel r (r, r, r): is this | (this - this) & q; rel q (r, r, r):; }",
		"type t { rel r (r, r, r): t is r.r; }",
		"type t { rel r (r, r, r): is q.p; rel q (r, r, r): u; } type u { rel p (p, p, p):; }",
		// One of those that have no Rel is enough, wherever it stands.
		"type t { rel r (r, r, r): v, u#p, u, v#q is r.p; } type u { rel p (p, p, p):; } type v { rel q (q, q, q):; }",
		"type t { rel r (r, r, r): v, u is r.p; } type u { rel p (p, p, p):; } type v { rel q (q, q, q):; }",
		"type t { rel r (r, r, r): u, v is r.p | r.q; } type u { rel p (p, p, p):; } type v { rel q (q, q, q):; }",
	} {
		if got := checked(parsed(t, text)); got != (answer{}) {
			t.Errorf("%q: %v", text, got)
		}
	}
}

// P9.2
func TestNamesThatAreThereTwice(t *testing.T) {
	holdAll(t, map[string]answer{
		"type t {} type t {}":                                                                {api.ErrTwice, "t"},
		"type t {} type u {} type v {} type t {}":                                            {api.ErrTwice, "t"},
		"type t {} type u {} type u {} type t {}":                                            {api.ErrTwice, "u"},
		"type t { rel r (r, r, r):; rel r (r, r, r):; }":                                     {api.ErrTwice, "t.r"},
		"type t { rel r (r, r, r):; rel q (q, q, q):; rel r (r, r, r):; rel q (q, q, q):; }": {api.ErrTwice, "t.r"},
		"type t {} type u { rel q (q, q, q):; rel q (q, q, q):; }":                           {api.ErrTwice, "u.q"},
		// The first one, type by type, and relation by relation within a type.
		"type t { rel r (r, r, r):; rel r (r, r, r):; } type t {}":   {api.ErrTwice, "t.r"},
		"type t {} type t { rel r (r, r, r):; rel r (r, r, r):; }":   {api.ErrTwice, "t"},
		"type t {} type é_9 { rel ß (a, a, a):; rel ß (a, a, a):; }": {api.ErrTwice, "é_9.ß"},
	})
}

// P9.2
func TestNamesThatNobodyHas(t *testing.T) {
	holdAll(t, map[string]answer{
		"type t { rel r (x, r, r):; }":                              {api.ErrName, "t.r"},
		"type t { rel r (r, x, r):; }":                              {api.ErrName, "t.r"},
		"type t { rel r (r, r, x):; }":                              {api.ErrName, "t.r"},
		"type t { rel r (r, r, r):; rel q (r, p, q):; }":            {api.ErrName, "t.q"},
		"type t { rel r (s, r, r):; } type u { rel s (s, s, s):; }": {api.ErrName, "t.r"},
		"type t { rel r (t, r, r):; }":                              {api.ErrName, "t.r"},
		// Who may stand there.
		"type t { rel r (r, r, r): u; }":                                        {api.ErrName, "t.r"},
		"type t { rel r (r, r, r): r; }":                                        {api.ErrName, "t.r"},
		"type t { rel r (r, r, r): t#u; }":                                      {api.ErrName, "t.r"},
		"type t { rel r (r, r, r): u#r; }":                                      {api.ErrName, "t.r"},
		"type t { rel r (r, r, r): t, t#r, u#r; } type u { rel s (s, s, s):; }": {api.ErrName, "t.r"},
		// Operations.
		"type t { rel r (r, r, r): is x; }":                                                      {api.ErrName, "t.r"},
		"type t { rel r (r, r, r): is t; }":                                                      {api.ErrName, "t.r"},
		"type t { rel r (r, r, r): is this | r & (this - x); }":                                  {api.ErrName, "t.r"},
		"type t { rel r (r, r, r): is s; } type u { rel s (s, s, s):; }":                         {api.ErrName, "t.r"},
		"type t { rel r (r, r, r): t is x.r; }":                                                  {api.ErrName, "t.r"},
		"type t { rel r (r, r, r): t is t.r; }":                                                  {api.ErrName, "t.r"},
		"type t { rel r (r, r, r): t is r.x; }":                                                  {api.ErrName, "t.r"},
		"type t { rel r (r, r, r): is r.r; }":                                                    {api.ErrName, "t.r"},
		"type t { rel r (r, r, r): t#r is r.r; }":                                                {api.ErrName, "t.r"},
		"type t { rel r (r, r, r): u is r.r; } type u { rel s (s, s, s):; }":                     {api.ErrName, "t.r"},
		"type t { rel r (r, r, r): u, t#r is r.r; } type u {}":                                   {api.ErrName, "t.r"},
		"type t { rel r (r, r, r): u is s.r; } type u { rel s (s, s, s): t; }":                   {api.ErrName, "t.r"},
		"type t { rel r (r, r, r): t is q.r; rel q (r, r, r):; }":                                {api.ErrName, "t.r"},
		"type t { rel r (r, r, r): t is r.r | q.r; rel q (r, r, r): t#r; }":                      {api.ErrName, "t.r"},
		"type t { rel r (r, r, r): is q.r; rel q (r, r, r): x; }":                                {api.ErrName, "t.r"},
		"type t { rel r (r, r, r): t is q.r; rel q (r, r, r): t, x; }":                           {api.ErrName, "t.q"},
		"type t { rel r (r, r, r): is q.p; rel q (r, r, r): u#p; } type u { rel p (p, p, p):; }": {api.ErrName, "t.r"},
		"type t {} type é_9 { rel ß (ß, ß, a):; }":                                               {api.ErrName, "é_9.ß"},
	})
}

// P9.2
func TestTheSameSubTwice(t *testing.T) {
	holdAll(t, map[string]answer{
		"type t { rel r (r, r, r): t, t; }":           {api.ErrTwice, "t.r"},
		"type t { rel r (r, r, r): t#r, t#r; }":       {api.ErrTwice, "t.r"},
		"type t { rel r (r, r, r): t, t#r, t; }":      {api.ErrTwice, "t.r"},
		"type t { rel r (r, r, r): t#r, t, t#r; }":    {api.ErrTwice, "t.r"},
		"type t { rel r (r, r, r): t, t is x; }":      {api.ErrTwice, "t.r"},
		"type t { rel r (r, r, r): t, t, x; }":        {api.ErrTwice, "t.r"},
		"type t { rel r (r, r, r): t, x, t; }":        {api.ErrName, "t.r"},
		"type t { rel r (r, r, r): x, x; }":           {api.ErrName, "t.r"},
		"type t { rel r (r, r, r): t#x, t#x; }":       {api.ErrName, "t.r"},
		"type t { rel r (r, x, r): t, t; }":           {api.ErrName, "t.r"},
		"type t { rel r (r, r, r): t, t, x is x.x; }": {api.ErrTwice, "t.r"},
		// Of two relations both may have it.
		"type t { rel r (r, r, r): t, t#r; rel q (r, r, r): t, t#r; }":        {api.OK, ""},
		"type t { rel r (r, r, r): t, t#r; rel q (r, r, r): t, t#r, t; }":     {api.ErrTwice, "t.q"},
		"type t { rel r (r, r, r): t; } type u { rel q (q, q, q): t, u, t; }": {api.ErrTwice, "u.q"},
	})
}

// P9.2: what there is is told ahead of what is named, wherever it stands.
func TestWhichIsToldFirst(t *testing.T) {
	holdAll(t, map[string]answer{
		"type t { rel r (x, r, r):; } type t {}":                                           {api.ErrTwice, "t"},
		"type t { rel r (r, r, r): x; rel r (r, r, r):; }":                                 {api.ErrTwice, "t.r"},
		"type t { rel r (r, r, r): t, t; } type u { rel q (q, q, q):; rel q (q, q, q):; }": {api.ErrTwice, "u.q"},
		"type t { rel r (r, r, r): is x; rel q (x, x, x):; }":                              {api.ErrName, "t.r"},
		"type t { rel r (r, r, r):; rel q (x, x, x):; } type u { rel r (x, x, x):; }":      {api.ErrName, "t.q"},
		"type t { rel r (r, r, r): t, t; rel q (x, x, x):; }":                              {api.ErrTwice, "t.r"},
		"type t { rel r (r, r, r): x; rel q (r, r, r): t, t; }":                            {api.ErrName, "t.r"},
		"type t { rel r (r, r, r): is x; } type u { rel q (q, q, q): u, u; }":              {api.ErrName, "t.r"},
	})
}

// P9.2
func TestLimits(t *testing.T) {
	rels := func(name string, n int) parse.Type { return parse.Type{Name: name, Rels: plain(numbered("r", n)...)} }
	ops := func(name string, n int) parse.Type {
		r := plain(name)
		r[0].Ops = slices.Repeat([]parse.Op{{Kind: parse.This}}, n)
		return parse.Type{Name: "t", Rels: r}
	}
	eight := types(numbered("t", 8)...)
	for _, one := range []struct {
		l    []parse.Type
		want answer
	}{
		{eight, answer{}},
		{append(types("t0"), eight...), answer{api.ErrLong, ""}},
		{types(numbered("t", 9)...), answer{api.ErrLong, ""}},
		{append(slices.Clone(eight[:7]), types("t0")...), answer{api.ErrTwice, "t0"}},
		{append([]parse.Type{rels("u", 13)}, eight...), answer{api.ErrLong, ""}},
		// Relations.
		{[]parse.Type{rels("t", 12)}, answer{}},
		{[]parse.Type{rels("t", 12), rels("u", 12)}, answer{}},
		{[]parse.Type{rels("t", 13)}, answer{api.ErrLong, "t"}},
		{[]parse.Type{rels("t", 12), rels("u", 13)}, answer{api.ErrLong, "u"}},
		{[]parse.Type{rels("t", 13), rels("t", 1)}, answer{api.ErrLong, "t"}},
		{[]parse.Type{rels("t", 1), rels("t", 13)}, answer{api.ErrTwice, "t"}},
		{[]parse.Type{rels("t", 1), rels("t", 1), rels("u", 13)}, answer{api.ErrTwice, "t"}},
		{[]parse.Type{{Name: "t", Rels: plain(append(numbered("r", 12), "r0")...)}}, answer{api.ErrLong, "t"}},
		{[]parse.Type{{Name: "t", Rels: plain(append(numbered("r", 11), "r0")...)}}, answer{api.ErrTwice, "t.r0"}},
		{[]parse.Type{{Name: "t", Rels: plain("r", "r")}, rels("u", 13)}, answer{api.ErrTwice, "t.r"}},
		// Operations.
		{[]parse.Type{ops("r", 0)}, answer{}},
		{[]parse.Type{ops("r", 16)}, answer{}},
		{[]parse.Type{ops("r", 17)}, answer{api.ErrLong, "t.r"}},
		{[]parse.Type{ops("r", 17), rels("u", 13)}, answer{api.ErrLong, "t.r"}},
		{[]parse.Type{rels("u", 13), ops("r", 17)}, answer{api.ErrLong, "u"}},
		{[]parse.Type{{Name: "t", Rels: append(ops("r", 16).Rels, ops("q", 17).Rels...)}}, answer{api.ErrLong, "t.q"}},
		{[]parse.Type{{Name: "t", Rels: append(ops("r", 17).Rels, ops("r", 17).Rels...)}}, answer{api.ErrLong, "t.r"}},
		{[]parse.Type{{Name: "t", Rels: append(ops("r", 1).Rels, ops("r", 17).Rels...)}}, answer{api.ErrTwice, "t.r"}},
		{[]parse.Type{{Name: "t", Rels: append(ops("r", 17).Rels, parse.Rel{Name: "q"})}}, answer{api.ErrLong, "t.r"}},
		{[]parse.Type{{Name: "t", Rels: append([]parse.Rel{{Name: "q"}}, ops("r", 17).Rels...)}}, answer{api.ErrLong, "t.r"}},
	} {
		if got := checked(parse.Schema{Types: one.l}); got != one.want {
			t.Errorf("%v: %v, want %v", one.l, got, one.want)
		}
	}
}

// P9.2: what no text says.
func TestOddSchemas(t *testing.T) {
	odd := func(change func(r *parse.Rel)) parse.Schema {
		s := parse.Schema{Types: []parse.Type{{Name: "t", Rels: plain("r")}}}
		change(&s.Types[0].Rels[0])
		return s
	}
	for i, one := range []struct {
		s    parse.Schema
		want answer
	}{
		{odd(func(r *parse.Rel) { r.Name = "" }), answer{api.ErrName, "t."}},
		{odd(func(r *parse.Rel) { r.View = "" }), answer{api.ErrName, "t.r"}},
		{odd(func(r *parse.Rel) { r.Edit = "t.r" }), answer{api.ErrName, "t.r"}},
		{odd(func(r *parse.Rel) { *r = parse.Rel{} }), answer{}},
		{odd(func(r *parse.Rel) { *r = parse.Rel{Subs: []parse.Sub{sub("t", ""), sub("t", "")}} }), answer{api.ErrTwice, "t."}},
		{odd(func(r *parse.Rel) { r.Subs = []parse.Sub{sub("", "")} }), answer{api.ErrName, "t.r"}},
		{odd(func(r *parse.Rel) { r.Subs = []parse.Sub{sub("", "r")} }), answer{api.ErrName, "t.r"}},
		{odd(func(r *parse.Rel) { r.Ops = []parse.Op{{}, {Kind: -1, Name: "x"}, {Kind: 7, Next: "x"}} }), answer{}},
		// What This and the signs name is nobody's matter.
		{odd(func(r *parse.Rel) { r.Ops = []parse.Op{op(parse.This, "x", "y"), op(parse.Or, "x", "y")} }), answer{}},
		{odd(func(r *parse.Rel) { r.Ops = []parse.Op{op(parse.And, "x", "y"), op(parse.Not, "x", "y")} }), answer{}},
		{odd(func(r *parse.Rel) { r.Ops = []parse.Op{op(parse.Same, "r", "x")} }), answer{}},
		{odd(func(r *parse.Rel) { r.Ops = []parse.Op{op(parse.Same, "", "")} }), answer{api.ErrName, "t.r"}},
		{odd(func(r *parse.Rel) { r.Ops = []parse.Op{op(parse.Via, "", "r")} }), answer{api.ErrName, "t.r"}},
		{odd(func(r *parse.Rel) { r.Subs, r.Ops = []parse.Sub{sub("t", "")}, []parse.Op{op(parse.Via, "r", "")} }), answer{api.ErrName, "t.r"}},
		{parse.Schema{Types: []parse.Type{{}}}, answer{}},
		{parse.Schema{Types: []parse.Type{{}, {}}}, answer{api.ErrTwice, ""}},
	} {
		if got := checked(one.s); got != one.want {
			t.Errorf("%v: %v: %v, want %v", i, one.s, got, one.want)
		}
	}
}

// P9.3: of a right schema without its last relation.
func TestRightWithoutTheLastRelation(t *testing.T) {
	holdAll(t, map[string]answer{
		"": {api.OK, ""},
		"type t { rel r (r, r, r):; rel q (q, q, q): t, t#q is q.q; }": {api.OK, ""},
		"type t { rel r (r, r, r):; }":                                 {api.OK, ""},
	})
	for _, names := range []string{
		"rel r (q, r, r):;", "rel r (r, q, r):;", "rel r (r, r, q):;",
		"rel r (r, r, r): t#q;", "rel r (r, r, r): is this - q;", "rel r (r, r, r): t is q.r;", "rel r (r, r, r): t is r.q;",
	} {
		whole := "type t { " + names + " rel q (q, q, q): t; }"
		part := "type t { " + names + " }"
		holdAll(t, map[string]answer{whole: {api.OK, ""}, part: {api.ErrName, "t.r"}})
	}
}

// Rule 1
func TestAllEndsForMuch(t *testing.T) {
	const n = 1 << 20
	s := parse.Schema{Types: types("t", "u", "v", "w", "x", "y", "z", "t7")}
	for i := range s.Types {
		s.Types[i].Rels = plain(numbered("r", 12)...)
	}
	// As many as there may be that are not the same, and then one of them again and again.
	var all []parse.Sub
	for _, typ := range s.Types {
		all = append(all, parse.Sub{Type: typ.Name})
		for _, r := range typ.Rels {
			all = append(all, parse.Sub{Type: typ.Name, Rel: r.Name})
		}
	}
	r := &s.Types[0].Rels[0]
	r.Subs = all
	r.Ops = slices.Repeat([]parse.Op{{Kind: parse.Via, Name: "r11", Next: "r0"}}, 16)
	last := &s.Types[0].Rels[11]
	last.Subs = all
	if got := checked(s); got != (answer{}) {
		t.Error(got)
	}
	last.Subs = append(slices.Repeat([]parse.Sub{sub("t", "r0")}, n), parse.Sub{Type: "t7"})
	if got := checked(s); got != (answer{api.ErrTwice, "t.r11"}) {
		t.Error(got)
	}
	r.Ops[15].Next = "r12"
	if got := checked(s); got != (answer{api.ErrName, "t.r0"}) {
		t.Error(got)
	}
	r.Subs = slices.Repeat(all, n/len(all))
	if got := checked(s); got != (answer{api.ErrTwice, "t.r0"}) {
		t.Error(got)
	}
	for _, l := range [][]parse.Type{
		make([]parse.Type, n),
		{{Rels: make([]parse.Rel, n)}},
		{{Rels: []parse.Rel{{Ops: make([]parse.Op, n)}}}},
	} {
		many := parse.Schema{Types: l}
		if got := checked(many); got.e != api.ErrLong {
			t.Error(got)
		}
		if _, ok := Find(many, "t", "r"); ok {
			t.Error("found")
		}
	}
}

// Rules 3 and 4
func TestWhatIsHandedInStays(t *testing.T) {
	text := "type t { rel r (r, q, r): u, t#r is this | r.s & q; rel q (q, q, q):; } type u { rel s (s, s, s): t, t; }"
	s, want := parsed(t, text), parsed(t, text)
	behind := parse.Type{Name: "x"}
	s.Types = append(s.Types, behind)[:2]
	for range 50 {
		if got := checked(s); got != (answer{api.ErrTwice, "u.s"}) {
			t.Fatal(got)
		}
		if r, ok := Find(s, "t", "r"); !ok || !sameRel(r, want.Types[0].Rels[0]) {
			t.Fatal(r, ok)
		}
	}
	if !slices.EqualFunc(s.Types, want.Types, sameType) || !sameType(s.Types[:3][2], behind) {
		t.Error(s.Types[:3])
	}
}
