package table

import (
	"math"
	"slices"
	"strconv"
	"strings"
	"testing"

	"doorman/api"
	"doorman/parse"
	"doorman/print"
)

// compiled is the table of a text that has one.
func compiled(t *testing.T, text string) Table {
	t.Helper()
	x, e := Compile(text)
	if e != api.OK {
		t.Fatalf("%q: %v", text, e)
	}
	return x
}

// docs is a schema whose relations have numbers, levels and operations that aren't alike.
const docs = `type user {}
type group { rel member (member, own, member): user, group#member; rel own (member, own, own): user; }
type folder { rel in (see, own, see): folder; rel own (own, own, own): user; rel see (see, own, own): user is this | in.see | own; }
type doc {
	rel up (see, own, see): folder, doc, user, group#member;
	rel own (own, own, see): user, group#member is (this | up.own) & this;
	rel ban (own, own, own): user, group#own;
	rel see (see, own, check): is own | up.see - (ban - check);
	rel check (see, see, see): doc#own;
}`

// outside are numbers that no relation has.
func outside(x Table) []int {
	return []int{-1, -2, x.Len(), x.Len() + 1, 96, math.MinInt, math.MaxInt, 1 << 32, -1 << 32}
}

// P11.2
func TestKindsAreNumbered(t *testing.T) {
	if l := []int{This, Same, Via, Or, And, Not}; !slices.Equal(l, []int{1, 2, 3, 4, 5, 6}) {
		t.Error(l)
	}
	if l := []int{parse.This, parse.Same, parse.Via, parse.Or, parse.And, parse.Not}; !slices.Equal(l, []int{1, 2, 3, 4, 5, 6}) {
		t.Error(l)
	}
}

// P11.1
func TestCompileTellsWhatIsWrong(t *testing.T) {
	rels := func(n int) string {
		var b strings.Builder
		for i := range n {
			b.WriteString("rel r" + strconv.Itoa(i) + "(r0,r0,r0):;")
		}
		return b.String()
	}
	one := func(rewrite string) string { return "type t { rel a (a, a, a): t is " + rewrite + "; }" }
	for _, c := range []struct {
		text string
		want api.Errno
	}{
		{"", api.OK},
		{" \n// nothing", api.OK},
		{"type t {}", api.OK},
		{docs, api.OK},
		// parse's errors, and token's.
		{"type", api.ErrSyntax},
		{"type t {} }", api.ErrSyntax},
		{"type t { rel }", api.ErrSyntax},
		{"type t !", api.ErrSyntax},
		{"type t {} \xff", api.ErrForm},
		{"type " + strings.Repeat("é", 24) + " {}", api.OK},
		{"type " + strings.Repeat("é", 25) + " {}", api.ErrName},
		{strings.Repeat(" ", 2048), api.OK},
		{strings.Repeat(" ", 2049), api.ErrLong},
		{one(strings.Repeat("(", 8) + "a" + strings.Repeat(")", 8)), api.OK},
		{one(strings.Repeat("(", 9) + "a" + strings.Repeat(")", 9)), api.ErrLong},
		// check's errors.
		{"type a{}type b{}type c{}type d{}type e{}type f{}type g{}type h{}", api.OK},
		{"type a{}type b{}type c{}type d{}type e{}type f{}type g{}type h{}type i{}", api.ErrLong},
		{"type t {" + rels(12) + "}", api.OK},
		{"type t {" + rels(13) + "}", api.ErrLong},
		{one("a" + strings.Repeat("|a", 7)), api.OK},
		{one("a" + strings.Repeat("|a", 8)), api.ErrLong},
		{"type t {} type t {}", api.ErrTwice},
		{"type t { rel a (a, a, a):; rel a (a, a, a):; }", api.ErrTwice},
		{"type t { rel a (a, a, a): t, t; }", api.ErrTwice},
		{"type t { rel a (b, a, a):; }", api.ErrName},
		{"type t { rel a (a, b, a):; }", api.ErrName},
		{"type t { rel a (a, a, b):; }", api.ErrName},
		{"type t { rel a (a, a, a): u; }", api.ErrName},
		{"type t { rel a (a, a, a): t#b; }", api.ErrName},
		{one("b"), api.ErrName},
		{one("b.a"), api.ErrName},
		{one("a.b"), api.ErrName},
		// What goes round with a Not.
		{one("this | a"), api.OK},
		{one("this - a"), api.ErrCycle},
		{one("this - (this & a.a)"), api.ErrCycle},
		{"type t { rel a (a, a, a): is this - b; rel b (a, a, a): is c; rel c (a, a, a): is this; }", api.OK},
		{"type t { rel a (a, a, a): is this - b; rel b (a, a, a): is c; rel c (a, a, a): is a; }", api.ErrCycle},
		{"type t { rel a (a, a, a): is this - b; rel b (a, a, a): u#c; } type u { rel c (c, c, c): t; }", api.OK},
		{"type t { rel a (a, a, a): is this - b; rel b (a, a, a): u#c; } type u { rel c (c, c, c): t#a; }", api.ErrCycle},
	} {
		x, e := Compile(c.text)
		if e != c.want {
			t.Errorf("%q: %v, want %v", c.text, e, c.want)
		}
		if e != api.OK {
			holdEmpty(t, x)
		}
	}
}

// P11.1
func TestCompileTellsWhatIsWrongInOrder(t *testing.T) {
	const round = "type t { rel a (a, a, a): is this - a; } "
	long := ofLength(2049)
	for text, want := range map[string]api.Errno{
		// What doesn't go on, ahead of what doesn't hold together.
		"type t {} type t {} }":             api.ErrSyntax,
		"type t { rel a (b, b, b):; } type": api.ErrSyntax,
		round + "type":                      api.ErrSyntax,
		long + "}":                          api.ErrSyntax,
		"type t { rel a (b, b, b): is this - a; } \x80":   api.ErrForm,
		round + "type " + strings.Repeat("a", 25) + " {}": api.ErrName,
		// What doesn't hold together, ahead of what goes round.
		round + "type u {} type u {}":                                             api.ErrTwice,
		round + "type u { rel b (c, b, b):;}":                                     api.ErrName,
		round + "type u { rel b (b, b, b): is b" + strings.Repeat("|b", 8) + ";}": api.ErrLong,
		strings.TrimSuffix(long, "}") + "rel q(r,r,r):x;}":                        api.ErrName,
		long + "type a{}": api.ErrTwice,
		// What goes round, ahead of what is too long when it is shown.
		strings.TrimSuffix(long, "}") + "rel q(r,r,r):is r-q;}": api.ErrCycle,
		strings.TrimSuffix(long, "}") + "rel q(r,r,r):is r|q;}": api.ErrLong,
	} {
		if len(text) > api.MaxText {
			t.Fatal(len(text))
		}
		x, e := Compile(text)
		if e != want {
			t.Errorf("%q: %v, want %v", text, e, want)
		}
		holdEmpty(t, x)
	}
}

// ofLength is a text without needless blanks of a schema that is right, and takes so many bytes when it is shown.
func ofLength(n int) string {
	const types, rels = 5, 11
	// Each type takes "type a {\n" and "}\n", and each relation "\trel r (r, r, r):;\n", of which each name but the first one is "r", two signs and what is added.
	left := n - types*11 - types*rels*19 - types*(rels-1)*2
	var b strings.Builder
	for i := range types {
		b.WriteString("type " + string(rune('a'+i)) + "{rel r(r,r,r):;")
		for j := range rels - 1 {
			add := min(left, 21)
			left -= add
			b.WriteString("rel r" + string(rune('a'+i)) + string(rune('a'+j)) + strings.Repeat("r", add) + "(r,r,r):;")
		}
		b.WriteString("}")
	}
	return b.String()
}

// P11.1
func TestWhatIsShownIsNoLongerThanATextMayBe(t *testing.T) {
	for n := 2040; n <= 2056; n++ {
		text := ofLength(n)
		s, e, _ := parse.Parse(text)
		if shown := print.Show(s); e != api.OK || len(shown) != n {
			t.Fatal(n, e, len(shown))
		}
		want := api.OK
		if n > 2048 {
			want = api.ErrLong
		}
		x, e := Compile(text)
		if e != want || len(text) >= 2048 {
			t.Errorf("%v: %v, want %v", n, e, want)
		}
		if e == api.OK && len(x.Text()) != n {
			t.Errorf("%v: %v", n, len(x.Text()))
		}
		if e != api.OK {
			holdEmpty(t, x)
		}
	}
	// Bytes, not runes, are told.
	wide := strings.Replace(ofLength(2048), "rr(", "ß(", 1)
	if x := compiled(t, wide); len(x.Text()) != 2048 {
		t.Error(len(x.Text()))
	}
	if _, e := Compile(strings.Replace(ofLength(2048), "rr(", "rß(", 1)); e != api.ErrLong {
		t.Error(e)
	}
	// What a text has besides isn't shown.
	noted := "type t {} //" + strings.Repeat("é", 1018)
	if x := compiled(t, noted); len(noted) != 2048 || x.Text() != "type t {\n}\n" {
		t.Error(len(noted), x.Text())
	}
}

// P11.2
func TestTypesAndNumbers(t *testing.T) {
	x := compiled(t, docs)
	paths := [][2]string{
		{"group", "member"}, {"group", "own"},
		{"folder", "in"}, {"folder", "own"}, {"folder", "see"},
		{"doc", "up"}, {"doc", "own"}, {"doc", "ban"}, {"doc", "see"}, {"doc", "check"},
	}
	if x.Len() != len(paths) {
		t.Error(x.Len())
	}
	for want, p := range paths {
		if id, ok := x.Id(p[0], p[1]); id != want || !ok {
			t.Errorf("%v: %v %v, want %v", p, id, ok, want)
		}
		if typ, rel := x.Path(want); typ != p[0] || rel != p[1] {
			t.Errorf("%v: %v %v, want %v", want, typ, rel, p)
		}
	}
	for _, typ := range []string{"user", "group", "folder", "doc"} {
		if !x.Has(typ) {
			t.Error(typ)
		}
	}
	for _, typ := range []string{"", "users", "use", "User", "user ", "member", "own", "doc.own", "doc#own", "type", "\xff"} {
		if x.Has(typ) {
			t.Errorf("%q", typ)
		}
	}
	for _, p := range [][2]string{
		{"user", "own"}, {"user", ""}, {"doc", ""}, {"", "own"}, {"", ""}, {"own", "doc"}, {"doc", "member"}, {"group", "see"},
		{"docs", "own"}, {"doc", "own "}, {"doco", "wn"}, {"do", "cown"}, {"doc.own", ""}, {"", "doc.own"}, {"doc", "\xff"},
	} {
		if id, ok := x.Id(p[0], p[1]); id != 0 || ok {
			t.Errorf("%q: %v %v", p, id, ok)
		}
	}
}

// P11.2
func TestMetasAndLevels(t *testing.T) {
	x := compiled(t, docs)
	for id, want := range [][4]int{
		{0, 1, 0, 0}, {0, 1, 1, 0},
		{4, 3, 4, 0}, {3, 3, 3, 0}, {4, 3, 3, 0},
		{8, 6, 8, 0}, {6, 6, 8, 0}, {6, 6, 6, 0}, {8, 6, 9, 1}, {8, 8, 8, 0},
	} {
		view, edit, check := x.Metas(id)
		if got := [4]int{view, edit, check, x.Level(id)}; got != want {
			t.Errorf("%v: %v, want %v", id, got, want)
		}
	}
	x = compiled(t, "type t { rel a (c, b, a): is this - b; rel b (a, c, b): is c | d; rel c (b, a, c): is this - d | b; rel d (d, d, d):; }")
	for id, want := range [][4]int{{2, 1, 0, 2}, {0, 2, 1, 1}, {1, 0, 2, 1}, {3, 3, 3, 0}} {
		view, edit, check := x.Metas(id)
		if got := [4]int{view, edit, check, x.Level(id)}; got != want {
			t.Errorf("%v: %v, want %v", id, got, want)
		}
	}
}

// P11.2
func TestMay(t *testing.T) {
	x := compiled(t, docs)
	names := []string{"", "user", "group", "folder", "doc", "member", "own", "see", "up", "in", "ban", "check", "nobody"}
	for id, want := range []string{
		"user group#member", "user",
		"folder", "user", "user",
		"user group#member folder doc", "user group#member", "user group#own", "", "doc#own",
	} {
		var got []string
		for _, typ := range names {
			for _, rel := range names {
				if !x.May(id, typ, rel) {
					continue
				}
				if rel != "" {
					typ += "#" + rel
				}
				got = append(got, typ)
			}
		}
		if s := strings.Join(got, " "); s != want {
			t.Errorf("%v: %v, want %v", id, s, want)
		}
	}
	for _, p := range [][2]string{{"group", ""}, {"group#member", ""}, {"", "member"}, {"", ""}, {"group", "own"}, {"user", "member"}, {"grou", "pmember"}} {
		if x.May(5, p[0], p[1]) {
			t.Errorf("%q", p)
		}
	}
}

// P11.2
func TestOps(t *testing.T) {
	x := compiled(t, docs)
	this, or, and, not := Op{Kind: This}, Op{Kind: Or}, Op{Kind: And}, Op{Kind: Not}
	for id, want := range [][]Op{
		{this}, {this},
		{this}, {this}, {this, {Via, 2, "see"}, or, {Kind: Same, Rel: 3}, or},
		{this}, {this, {Via, 5, "own"}, or, this, and}, {this},
		{{Kind: Same, Rel: 6}, {Via, 5, "see"}, or, {Kind: Same, Rel: 7}, {Kind: Same, Rel: 9}, not, not},
		{this},
	} {
		if got := x.Ops(id); !slices.Equal(got, want) {
			t.Errorf("%v: %v, want %v", id, got, want)
		}
	}
	// Of each type its own relation of that name; a Via's, too, wherever it leads.
	x = compiled(t, "type t { rel a (a, a, a): u is b; rel b (a, a, a): u is a.a; } type u { rel b (b, b, b): t is a; rel a (a, a, a): t is b.b; }")
	for id, want := range [][]Op{{{Same, 1, ""}}, {{Via, 0, "a"}}, {{Same, 3, ""}}, {{Via, 2, "b"}}} {
		if got := x.Ops(id); !slices.Equal(got, want) {
			t.Errorf("%v: %v, want %v", id, got, want)
		}
	}
}

// P11.2
func TestText(t *testing.T) {
	for text, want := range map[string]string{
		"":         "",
		"//":       "",
		"type t{}": "type t {\n}\n",
		"type t{rel a(b,a,b):t is(this)-((a.b)&b);rel b(b,b,b):t,t#b is this;}type u{}": "type t {\n" +
			"\trel a (b, a, b): t is this - (a.b & b);\n" +
			"\trel b (b, b, b): t, t#b;\n" +
			"}\ntype u {\n}\n",
	} {
		if got := compiled(t, text).Text(); got != want {
			t.Errorf("%q: %q, want %q", text, got, want)
		}
	}
}

// P11.2
func TestNumbersThatAreNoRelations(t *testing.T) {
	for _, text := range []string{"", "type t {}", "type t { rel a (a, a, a): t is a.a; }", docs} {
		x := compiled(t, text)
		for _, id := range outside(x) {
			holdNone(t, x, id)
		}
	}
}

// holdNone holds that a table tells nothing of a number.
func holdNone(t *testing.T, x Table, id int) {
	t.Helper()
	if typ, rel := x.Path(id); typ != "" || rel != "" {
		t.Error(id, typ, rel)
	}
	if view, edit, check := x.Metas(id); view != 0 || edit != 0 || check != 0 {
		t.Error(id, view, edit, check)
	}
	if n := x.Level(id); n != 0 {
		t.Error(id, n)
	}
	if l := x.Ops(id); len(l) != 0 {
		t.Error(id, l)
	}
	for _, p := range [][2]string{{"", ""}, {"t", ""}, {"t", "a"}, {"user", ""}, {"group", "member"}, {"doc", "own"}, {"doc", ""}} {
		if x.May(id, p[0], p[1]) {
			t.Error(id, p)
		}
	}
}

// holdEmpty holds that a table is the empty one.
func holdEmpty(t *testing.T, x Table) {
	t.Helper()
	if x.Text() != "" || x.Len() != 0 {
		t.Errorf("%q, %v", x.Text(), x.Len())
	}
	for _, typ := range []string{"", "t", "a", "user", "doc"} {
		if x.Has(typ) {
			t.Error(typ)
		}
		for _, rel := range []string{"", "a", "r", "own"} {
			if id, ok := x.Id(typ, rel); id != 0 || ok {
				t.Error(typ, rel, id, ok)
			}
		}
	}
	for id := -1; id < 12; id++ {
		holdNone(t, x, id)
	}
}

// P11.1, P11.2
func TestTheEmptyTable(t *testing.T) {
	holdEmpty(t, Table{})
	holdEmpty(t, compiled(t, ""))
	holdEmpty(t, compiled(t, "\n// type t {}\n"))
	// Types without relations are there.
	x := compiled(t, "type t {} type u {}")
	if x.Len() != 0 || !x.Has("t") || !x.Has("u") || x.Has("v") {
		t.Error(x.Len())
	}
}

// P11.2, Rule 3
func TestWhatIsToldIsNewMemory(t *testing.T) {
	x := compiled(t, docs)
	y, want := x, compiled(t, docs).Ops(8)
	first, second := x.Ops(8), x.Ops(8)
	for i := range first {
		first[i] = Op{9, 9, "x"}
	}
	if len(first) != 7 || !slices.Equal(second, want) || !slices.Equal(x.Ops(8), want) || !slices.Equal(y.Ops(8), want) {
		t.Error(first, second, x.Ops(8), y.Ops(8))
	}
	_ = append(x.Ops(8), Op{9, 9, "x"})
	_ = append(x.Ops(8)[:1], Op{9, 9, "x"})
	if !slices.Equal(x.Ops(8), want) || !slices.Equal(x.Ops(9), []Op{{Kind: This}}) {
		t.Error(x.Ops(8), x.Ops(9))
	}
}

// P11.1, P11.2: as many types and relations as there may be, of which each looks at the one that stands at the other end of its type.
func TestAsManyAsThereMayBe(t *testing.T) {
	var b strings.Builder
	for i := range 8 {
		b.WriteString("type " + string(rune('a'+i)) + "{")
		for j := range 12 {
			own, other := string(rune('a'+j)), string(rune('l'-j))
			b.WriteString("rel " + own + "(" + other + ",a," + own + "):;")
		}
		b.WriteString("}")
	}
	x := compiled(t, b.String())
	if x.Len() != 96 || !x.Has("h") {
		t.Error(x.Len())
	}
	for id := range 96 {
		typ, rel := x.Path(id)
		if typ != string(rune('a'+id/12)) || rel != string(rune('a'+id%12)) {
			t.Error(id, typ, rel)
		}
		if got, ok := x.Id(typ, rel); got != id || !ok {
			t.Error(id, got, ok)
		}
		first := id / 12 * 12
		if view, edit, check := x.Metas(id); view != first+11-id%12 || edit != first || check != id {
			t.Error(id, view, edit, check)
		}
	}
	for _, id := range outside(x) {
		holdNone(t, x, id)
	}
}

// Rule 1
func TestCompileEndsHoweverLongATextIs(t *testing.T) {
	for _, s := range []string{"type a{}", "(", "\xff", "// \n", "type t{rel a(a,a,a):is " + strings.Repeat("(", 100)} {
		x, e := Compile(strings.Repeat(s, 1<<20/len(s)))
		if e != api.ErrLong {
			t.Errorf("%q: %v", s, e)
		}
		holdEmpty(t, x)
	}
}
