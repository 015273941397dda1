package index

import (
	"math"
	"slices"
	"strconv"
	"strings"
	"testing"

	"doorman/api"
	"doorman/eval"
	"doorman/table"
	"doorman/tuple"
)

// schema has types whose names begin alike, and docs that are told by what isn't in them, too.
const schema = "type u {} type Z {}" +
	" type d { rel a (a, a, a): u, Z, d, dd, é, g#m; rel b (a, a, a): u; rel c (a, a, a): u is (this | b) - a; }" +
	" type dd { rel a (a, a, a): u; } type g { rel m (m, m, m): u, g#m; } type é { rel a (a, a, a): u; }"

// node and of are a text's node and tuple; empty ones, if it is none's.
func node(s string) api.Node {
	n, _ := tuple.Read(s)
	return n
}

func of(s string) api.Tuple {
	x, _ := tuple.Parse(s)
	return x
}

// sets are those of texts with blanks between.
func sets(t *testing.T, tuples string) eval.Sets {
	t.Helper()
	x, e := table.Compile(schema)
	if e != api.OK {
		t.Fatal(e)
	}
	var l []api.Tuple
	for _, s := range strings.Fields(tuples) {
		one := of(s)
		if e := tuple.Right(x, one); e != api.OK {
			t.Fatal(s, e)
		}
		l = append(l, one)
	}
	return eval.All(x, l)
}

// one is an index to which those of one revision were told.
func one(t *testing.T, rev int, tuples string) *Index {
	t.Helper()
	x := New()
	x.Tell(rev, sets(t, tuples))
	return x
}

// conds are those of texts such as "a@u:x", with blanks between.
func conds(s string) []Cond {
	var l []Cond
	for _, one := range strings.Fields(s) {
		rel, who, _ := strings.Cut(one, "@")
		l = append(l, Cond{rel, node(who)})
	}
	return l
}

// shown are those members that are told one by one, from an empty one on, as long as they rise.
func shown(x *Index, rev int, n api.Node) string {
	var l []string
	var last api.Node
	for who, is := x.NextWho(rev, n, last); is; who, is = x.NextWho(rev, n, last) {
		l = append(l, tuple.Show(who))
		if who.Type < last.Type || who.Type == last.Type && who.Id <= last.Id {
			return strings.Join(l, " ") + " again"
		}
		last = who
	}
	return strings.Join(l, " ")
}

// ids are those of objects that are told one by one, from an empty one on, as long as they rise.
func ids(x *Index, rev int, typ string, conds ...Cond) string {
	var l []string
	last := ""
	for id, is := x.NextId(rev, typ, last, conds...); is; id, is = x.NextId(rev, typ, last, conds...) {
		l = append(l, id)
		if id <= last {
			return strings.Join(l, " ") + " again"
		}
		last = id
	}
	return strings.Join(l, " ")
}

// holdRevs holds Revs.
func holdRevs(t *testing.T, x *Index, want ...int) {
	t.Helper()
	if got := x.Revs(); !slices.Equal(got, want) {
		t.Errorf("%v, want %v", got, want)
	}
}

// holdNone holds that nothing is told of a revision, though of all others something might be.
func holdNone(t *testing.T, x *Index, rev int) {
	t.Helper()
	if x.Has(rev, node("d:1#a"), node("u:x")) {
		t.Errorf("at %d Has", rev)
	}
	if who, is := x.NextWho(rev, node("d:1#a"), api.Node{}); who != (api.Node{}) || is {
		t.Errorf("at %d NextWho %v %v", rev, who, is)
	}
	if id, is := x.NextId(rev, "d", "", Cond{"a", node("u:x")}); id != "" || is {
		t.Errorf("at %d NextId %q %v", rev, id, is)
	}
}

// holdOne holds that of a revision just u:x is told, of d:1#a.
func holdOne(t *testing.T, x *Index, rev int) {
	t.Helper()
	if !x.Has(rev, node("d:1#a"), node("u:x")) || shown(x, rev, node("d:1#a")) != "u:x" || ids(x, rev, "d", Cond{"a", node("u:x")}) != "1" {
		t.Errorf("at %d u:x isn't there", rev)
	}
}

// P17.2, P17.3: the document's example.
func TestExample(t *testing.T) {
	x := one(t, 3, "d:1#a@u:x")
	first, second := x.Has(3, node("d:1#a"), node("u:x")), x.Has(4, node("d:1#a"), node("u:x"))
	if !first || second || x.Probes() != 2 {
		t.Error(first, second, x.Probes())
	}
}

// P17.1
func TestNew(t *testing.T) {
	x := New()
	holdRevs(t, x)
	for _, rev := range []int{math.MinInt, -1, 0, 1, math.MaxInt} {
		holdNone(t, x, rev)
		x.Trim(rev)
		holdRevs(t, x)
	}
	x.Tell(1, sets(t, "d:1#a@u:x"))
	holdRevs(t, New())
	holdNone(t, New(), 1)
}

// P17.1: in whatever order they are told, whatever numbers they have, and without members, too.
func TestTell(t *testing.T) {
	x, s := New(), sets(t, "d:1#a@u:x")
	x.Tell(3, s)
	holdRevs(t, x, 3)
	x.Tell(10, eval.Sets{})
	x.Tell(1, s)
	holdRevs(t, x, 1, 3, 10)
	for _, rev := range []int{0, -1, math.MaxInt, math.MinInt, 2} {
		x.Tell(rev, s)
	}
	holdRevs(t, x, math.MinInt, -1, 0, 1, 2, 3, 10, math.MaxInt)
	for _, rev := range []int{math.MinInt, -1, 0, 1, 2, 3, math.MaxInt} {
		holdOne(t, x, rev)
	}
	for _, rev := range []int{math.MinInt + 1, -2, 4, 9, 10, 11, math.MaxInt - 1} {
		holdNone(t, x, rev)
	}
}

// P17.1: what is told once more stands in place of what was told, and of no other revision.
func TestTellInPlace(t *testing.T) {
	x := one(t, 2, "d:1#a@u:z d:1#b@u:x d:2#a@u:x d:3#a@u:x")
	x.Tell(1, sets(t, "d:1#a@u:x"))
	x.Tell(3, sets(t, "d:1#a@u:x"))
	x.Tell(2, sets(t, "d:1#a@u:y d:2#a@u:x"))
	holdRevs(t, x, 1, 2, 3)
	if l := shown(x, 2, node("d:1#a")); l != "u:y" {
		t.Error(l)
	}
	if l := ids(x, 2, "d", Cond{"a", node("u:x")}); l != "2" {
		t.Error(l)
	}
	if x.Has(2, node("d:1#a"), node("u:z")) || x.Has(2, node("d:1#b"), node("u:x")) || !x.Has(2, node("d:1#a"), node("u:y")) {
		t.Error("what was told is there still")
	}
	holdOne(t, x, 1)
	holdOne(t, x, 3)
	x.Tell(2, eval.Sets{})
	holdRevs(t, x, 1, 2, 3)
	holdNone(t, x, 2)
}

// P17.1
func TestTrim(t *testing.T) {
	for _, c := range []struct {
		rev  int
		want []int
	}{
		{math.MinInt, []int{-5, 0, 2, 3, 7}},
		{-6, []int{-5, 0, 2, 3, 7}},
		{-5, []int{-5, 0, 2, 3, 7}},
		{-4, []int{0, 2, 3, 7}},
		{0, []int{0, 2, 3, 7}},
		{1, []int{2, 3, 7}},
		{2, []int{2, 3, 7}},
		{3, []int{3, 7}},
		{4, []int{7}},
		{7, []int{7}},
		{8, nil},
		{math.MaxInt, nil},
	} {
		x, s := New(), sets(t, "d:1#a@u:x")
		for _, rev := range []int{3, -5, 7, 2, 0} {
			x.Tell(rev, s)
		}
		x.Trim(c.rev)
		holdRevs(t, x, c.want...)
		for _, rev := range []int{-5, 0, 2, 3, 7} {
			if slices.Contains(c.want, rev) {
				holdOne(t, x, rev)
			} else {
				holdNone(t, x, rev)
			}
		}
	}
}

// P17.1: a revision that was trimmed may be told again, and others below it, and trimming goes no further back.
func TestTellBehindTrim(t *testing.T) {
	x, s := one(t, 2, "d:1#a@u:x d:2#a@u:x"), sets(t, "d:1#a@u:x")
	x.Trim(5)
	x.Tell(2, s)
	x.Tell(1, s)
	holdRevs(t, x, 1, 2)
	holdOne(t, x, 1)
	holdOne(t, x, 2)
	x.Trim(2)
	x.Trim(1)
	holdRevs(t, x, 2)
}

// P17.1
func TestRevsAreNewMemory(t *testing.T) {
	x := one(t, 2, "d:1#a@u:x")
	x.Tell(1, sets(t, "d:1#a@u:x"))
	l := x.Revs()
	clear(l[:cap(l)])
	holdRevs(t, x, 1, 2)
	holdOne(t, x, 2)
}

// P17.2
func TestHas(t *testing.T) {
	const tuples = "d:1#a@g:1#m g:1#m@u:x d:1#b@u:y d:1#b@u:x d:2#a@d:1"
	s, x := sets(t, tuples), one(t, 5, tuples)
	for _, c := range []struct {
		node, who string
		want      bool
	}{
		{"d:1#a", "u:x", true},
		{"d:1#a", "u:y", false},
		{"d:1#b", "u:y", true},
		{"d:1#c", "u:y", true},
		{"d:1#c", "u:x", false}, // taken away
		{"g:1#m", "u:x", true},
		{"d:2#a", "d:1", true},
		{"d:2#a", "d:1#a", false},
		{"d:1#a", "g:1#m", false}, // no member has a Rel
		{"d:1#a", "g:1", false},
		{"d:1#a", "u:x#a", false},
		{"d:1", "u:x", false},
		{"d:3#a", "u:x", false},
		{"d:1#none", "u:x", false},
		{"none:1#a", "u:x", false},
		{"u:x", "d:1#a", false},
		{"d:1#a", "", false},
		{"", "u:x", false},
		{"", "", false},
	} {
		n, who := node(c.node), node(c.who)
		if s.Has(n, who) != c.want || x.Has(5, n, who) != c.want || x.Has(4, n, who) || x.Has(6, n, who) || x.Has(0, n, who) {
			t.Errorf("%s of %s: %v", c.who, c.node, x.Has(5, n, who))
		}
	}
}

// P17.2: above is told by Type, then by Id, byte by byte.
func TestNextWho(t *testing.T) {
	// In order: Z:9, d:1, d:10, d:2, dd:0, u:9, u:Z, u:_, u:a, u:aa, u:z, u:é, é:1.
	x := one(t, 5, "d:1#a@é:1 d:1#a@u:é d:1#a@u:a d:1#a@u:z d:1#a@u:aa d:1#a@u:Z d:1#a@u:_ d:1#a@u:9 d:1#a@dd:0 d:1#a@d:2 d:1#a@d:10 d:1#a@d:1 d:1#a@Z:9 d:1#b@u:b d:2#a@u:c")
	for _, c := range []struct {
		after api.Node
		want  string
	}{
		{api.Node{}, "Z:9"},
		{api.Node{Id: "é"}, "Z:9"},
		{api.Node{Rel: "é"}, "Z:9"},
		{api.Node{Type: "A", Id: "z"}, "Z:9"},
		{api.Node{Type: "Z"}, "Z:9"},
		{api.Node{Type: "Z", Id: "8"}, "Z:9"},
		{node("Z:9"), "d:1"},
		{api.Node{Type: "Z", Id: "\xff"}, "d:1"},
		{api.Node{Type: "d", Id: "0"}, "d:1"},
		{node("d:1"), "d:10"},
		{node("d:10"), "d:2"},
		{node("d:100"), "d:2"},
		{node("d:2"), "dd:0"},
		{node("d:3"), "dd:0"}, // nobody stands there
		{node("d:u"), "dd:0"},
		{node("dd:0"), "u:9"},
		{node("e:9"), "u:9"}, // nor is there such a type
		{node("u:10"), "u:9"},
		{node("u:9"), "u:Z"},
		{node("u:Z"), "u:_"},
		{node("u:_"), "u:a"},
		{node("u:a"), "u:aa"},
		{api.Node{Type: "u", Id: "a\x00"}, "u:aa"},
		{node("u:aa"), "u:z"},
		{node("u:z"), "u:é"},
		{node("u:é"), "é:1"},
		{node("é:0"), "é:1"},
		{node("é:1"), ""},
		{node("é:10"), ""},
		{node("é:2"), ""},
		{api.Node{Type: "\xff"}, ""},
	} {
		for _, rel := range []string{c.after.Rel, "", "a", "é"} { // it plays no part
			c.after.Rel = rel
			if who, is := x.NextWho(5, node("d:1#a"), c.after); who != node(c.want) || is != (c.want != "") {
				t.Errorf("behind %q: %v %v, want %s", c.after, who, is, c.want)
			}
		}
	}
	for _, rev := range []int{math.MinInt, -5, 0, 4, 6, math.MaxInt} {
		if who, is := x.NextWho(rev, node("d:1#a"), api.Node{}); who != (api.Node{}) || is {
			t.Errorf("at %d: %v %v", rev, who, is)
		}
	}
}

// P17.2: of each node just its own members, and none of what has none.
func TestNextWhoOfOthers(t *testing.T) {
	x := one(t, 5, "d:1#a@g:1#m g:1#m@g:2#m g:2#m@u:x g:1#m@u:y d:1#b@u:x d:1#b@u:z d:3#a@g:3#m")
	for _, c := range []struct{ node, want string }{
		{"d:1#a", "u:x u:y"}, {"d:1#b", "u:x u:z"}, {"d:1#c", "u:z"}, {"g:1#m", "u:x u:y"}, {"g:2#m", "u:x"},
		{"d:3#a", ""}, {"g:3#m", ""}, {"d:2#a", ""}, {"d:1", ""}, {"d:1#d", ""}, {"dd:1#a", ""}, {"u:x", ""}, {"", ""},
	} {
		if l := shown(x, 5, node(c.node)); l != c.want {
			t.Errorf("%s: %s, want %s", c.node, l, c.want)
		}
	}
}

// P17.2
func TestNextId(t *testing.T) {
	// In order: 1, 10, 2, Z, _, a, aa, é.
	x := one(t, 5, "d:é#a@u:x d:2#a@u:x d:aa#a@u:x d:10#a@u:x d:_#a@u:x d:1#a@u:x d:a#a@u:x d:Z#a@u:x dd:15#a@u:x dd:5#a@u:x g:5#m@u:x g:9#m@u:x d:11#a@u:y d:12#b@u:x é:3#a@u:x d:3#a@d:4")
	for _, c := range []struct{ typ, after, want string }{
		{"d", "", "1"},
		{"d", "\x00", "1"},
		{"d", "0", "1"},
		{"d", "1", "10"},
		{"d", "1\x00", "10"},
		{"d", "10", "2"}, // not 11 or 12
		{"d", "11", "2"},
		{"d", "2", "Z"},
		{"d", "9", "Z"},
		{"d", "Z", "_"},
		{"d", "_", "a"},
		{"d", "a", "aa"},
		{"d", "aa", "é"},
		{"d", "z", "é"},
		{"d", "é", ""}, // not those of dd
		{"d", "\xff", ""},
		{"dd", "", "15"},
		{"dd", "15", "5"},
		{"dd", "5", ""},
		{"é", "", "3"},
		{"é", "3", ""},
		{"g", "", ""}, // it hasn't that relation
		{"u", "", ""},
		{"", "", ""},
		{"D", "", ""},
		{"c", "", ""},
		{"e", "", ""},
		{"d#a", "", ""},
		{"d:1", "", ""},
		{"none", "", ""},
	} {
		id, is := x.NextId(5, c.typ, c.after, Cond{"a", node("u:x")})
		if id != c.want || is != (c.want != "") {
			t.Errorf("%s behind %q: %q %v, want %q", c.typ, c.after, id, is, c.want)
		}
	}
	for _, rev := range []int{math.MinInt, -5, 0, 4, 6, math.MaxInt} {
		if id, is := x.NextId(rev, "d", "", Cond{"a", node("u:x")}); id != "" || is {
			t.Errorf("at %d: %q %v", rev, id, is)
		}
	}
}

// P17.2: all of the conditions are to hold, of one object; without any there is nothing.
func TestConds(t *testing.T) {
	x := one(t, 5, "d:1#a@u:x d:2#a@u:x d:2#b@u:y d:3#a@u:x d:3#a@u:y d:3#b@u:y d:4#b@u:y d:5#b@u:y d:5#a@g:1#m g:1#m@u:x d:6#a@d:1 g:2#m@u:y")
	for _, c := range []struct{ typ, conds, want string }{
		{"d", "", ""},
		{"d", "a@u:x", "1 2 3 5"},
		{"d", "a@u:x a@u:x", "1 2 3 5"},
		{"d", "b@u:y", "2 3 4 5"},
		{"d", "a@u:x b@u:y", "2 3 5"},
		{"d", "b@u:y a@u:x", "2 3 5"},
		{"d", "a@u:x b@u:y c@u:y", "2 5"},
		{"d", "a@u:x a@u:y", "3"},
		{"d", "a@u:y a@u:x b@u:y", "3"},
		{"d", "a@u:x a@u:x a@u:y b@u:y c@u:y", ""}, // the last one never holds with the third
		{"d", "c@u:y", "2 4 5"},
		{"d", "a@u:y c@u:y", ""},
		{"d", "b@u:x", ""},
		{"d", "a@u:x b@u:x", ""},
		{"d", "b@u:x a@u:x", ""},
		{"d", "a@d:1", "6"},
		{"d", "a@d:1 a@u:x", ""}, // they hold of two
		{"d", "a@u:z", ""},
		{"d", "a@u:x none@u:x", ""},
		{"d", "none@u:x a@u:x", ""},
		{"d", "none@u:x", ""},
		{"d", "@u:x", ""},
		{"d", "@d:1", ""},
		{"d", "a@", ""},
		{"d", "a@g:1#m", ""}, // no member has a Rel
		{"d", "a@u:x#a", ""},
		{"d", "m@u:x", ""}, // another type's
		{"g", "m@u:x", "1"},
		{"g", "m@u:y", "2"},
		{"g", "m@u:x m@u:y", ""},
		{"g", "", ""},
		{"", "", ""},
	} {
		if got := ids(x, 5, c.typ, conds(c.conds)...); got != c.want {
			t.Errorf("%s of %s: %s, want %s", c.conds, c.typ, got, c.want)
		}
	}
	if id, is := x.NextId(5, "d", "", []Cond{}...); id != "" || is {
		t.Error(id, is)
	}
}

// P17.2: conditions that are handed in as a list stay as they are, and aren't kept.
func TestCondsStay(t *testing.T) {
	x := one(t, 5, "d:1#a@u:x d:2#a@u:x d:2#b@u:y")
	l := conds("b@u:y a@u:x")
	was := slices.Clone(l)
	if got := ids(x, 5, "d", l...); got != "2" || !slices.Equal(l, was) {
		t.Error(got, l)
	}
	clear(l)
	if got := ids(x, 5, "d", was[1]); got != "1 2" {
		t.Error(got)
	}
}

// P17.3
func TestProbes(t *testing.T) {
	x, s := New(), sets(t, "d:1#a@u:x d:2#a@u:x d:2#a@u:y")
	n, who := node("d:2#a"), node("u:x")
	want := 0
	hold := func(calls int, what string) {
		t.Helper()
		want += calls
		if got := x.Probes(); got != want {
			t.Fatalf("%s: %d, want %d", what, got, want)
		}
	}
	hold(0, "at first")
	x.Tell(1, s)
	x.Tell(2, s)
	x.Tell(2, s)
	hold(0, "Tell")
	x.Revs()
	hold(0, "Revs")
	x.Probes()
	hold(0, "Probes")
	x.Has(2, n, who)
	hold(1, "Has")
	x.Has(2, n, node("u:z"))
	x.Has(2, api.Node{}, api.Node{})
	hold(2, "Has, of nobody")
	x.Has(3, n, who)
	x.Has(-1, n, who)
	hold(2, "Has, of no revision")
	x.NextWho(2, n, api.Node{})
	x.NextWho(2, n, who)
	hold(2, "NextWho")
	x.NextWho(2, n, node("u:y"))
	x.NextWho(2, api.Node{}, api.Node{})
	x.NextWho(3, n, api.Node{})
	hold(3, "NextWho, of nobody")
	x.NextId(2, "d", "", conds("a@u:x a@u:x a@u:y")...)
	hold(1, "NextId, past another one, with conditions")
	x.NextId(2, "d", "2", conds("a@u:x")...)
	x.NextId(2, "none", "", conds("a@u:x")...)
	x.NextId(3, "d", "", conds("a@u:x")...)
	hold(3, "NextId, of nothing")
	x.NextId(2, "d", "")
	x.NextId(3, "d", "")
	hold(2, "NextId, without conditions")
	x.Trim(2)
	x.Trim(9)
	hold(0, "Trim")
	x.Has(2, n, who)
	hold(1, "Has, of what was trimmed")
	if y := New(); y.Has(2, n, who) || y.Probes() != 1 {
		t.Error("another one counts with it", y.Probes())
	}
	hold(0, "another one's")
}

// P17.3
func TestNil(t *testing.T) {
	var x *Index
	x.Tell(1, sets(t, "d:1#a@u:x"))
	x.Trim(0)
	holdRevs(t, x)
	holdNone(t, x, 1)
	holdNone(t, x, 0)
	if id, is := x.NextId(1, "d", ""); id != "" || is {
		t.Error(id, is)
	}
	if x.Probes() != 0 {
		t.Error(x.Probes())
	}
}

// P17.1 to P17.3: one that New didn't make ends, too.
func TestZeroValue(t *testing.T) {
	var x Index
	holdRevs(t, &x)
	holdNone(t, &x, 1)
	x.Trim(1)
	x.Tell(1, sets(t, "d:1#a@u:x"))
	holdRevs(t, &x, 1)
	holdOne(t, &x, 1)
}

// P17.4: long lists are told one by one, each once, in order, though other revisions hold others.
func TestLongLists(t *testing.T) {
	const most = 3000
	var l, less []string
	for i := range most {
		l = append(l, "d:"+strconv.Itoa(i)+"#a@u:x", "d:1#b@u:"+strconv.Itoa(i))
	}
	for i := range most / 2 {
		less = append(less, l[4*i:4*i+2]...)
	}
	x := one(t, 1, strings.Join(l, " "))
	x.Tell(2, sets(t, strings.Join(less, " ")))
	for rev, step := range []int{0, 1, 2, 0} {
		var want []string
		for i := 0; step > 0 && i < most; i += step {
			want = append(want, strconv.Itoa(i))
		}
		slices.Sort(want)
		if got := ids(x, rev, "d", Cond{"a", node("u:x")}); got != strings.Join(want, " ") {
			t.Errorf("at %d: %s", rev, got)
		}
		for i := range want {
			want[i] = "u:" + want[i]
		}
		if got := shown(x, rev, node("d:1#b")); got != strings.Join(want, " ") {
			t.Errorf("at %d: %s", rev, got)
		}
	}
	if n := x.Probes(); n != 4*2+2*(most+most/2) {
		t.Error(n)
	}
}
