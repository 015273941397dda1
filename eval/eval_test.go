package eval

import (
	"slices"
	"strconv"
	"strings"
	"testing"

	"doorman/api"
	"doorman/table"
	"doorman/tuple"
)

// schema has groups of users and of groups, whose admins are told apart, and docs within docs and folders, with those that are banned.
const schema = "type user {}" +
	" type group { rel member (member, admin, member): user, group#member is this | admin; rel admin (admin, admin, admin): user; }" +
	" type folder { rel read (read, read, read): user, group#member; }" +
	" type doc { rel up (read, own, read): doc, folder, user, group#member; rel own (own, own, own): user; rel ban (own, own, own): user, group#member;" +
	" rel read (read, own, read): user, group#member is (this | own | up.read) - ban; rel both (own, own, own): user is this & own; }"

// compiled is a text's table.
func compiled(t *testing.T, text string) table.Table {
	t.Helper()
	x, e := table.Compile(text)
	if e != api.OK {
		t.Fatalf("%q: %v", text, e)
	}
	return x
}

// node and of are a text's node and tuple; empty ones, if it is none's.
func node(s string) api.Node {
	n, _ := tuple.Read(s)
	return n
}

func of(s string) api.Tuple {
	x, _ := tuple.Parse(s)
	return x
}

// ofAll are the tuples of texts with blanks between.
func ofAll(s string) []api.Tuple {
	var l []api.Tuple
	for _, x := range strings.Fields(s) {
		l = append(l, of(x))
	}
	return l
}

// shown are nodes as one text.
func shown(l []api.Node) string {
	var texts []string
	for _, n := range l {
		texts = append(texts, tuple.Show(n))
	}
	return strings.Join(texts, " ")
}

// lines are all nodes that have members, with these, a line each.
func lines(s Sets) string {
	var l []string
	for _, n := range s.Nodes() {
		l = append(l, tuple.Show(n)+" = "+shown(s.Members(n)))
	}
	return strings.Join(l, "\n")
}

// hold holds the members of all nodes by a schema and tuples.
func hold(t *testing.T, text, tuples string, want ...string) Sets {
	t.Helper()
	s := All(compiled(t, text), ofAll(tuples))
	if got := lines(s); got != strings.Join(want, "\n") {
		t.Errorf("%s:\n%s\nwant\n%s", tuples, got, strings.Join(want, "\n"))
	}
	return s
}

// P16.1: the document's example.
func TestExample(t *testing.T) {
	s := hold(t, schema, "doc:1#read@group:g#member group:g#member@user:a",
		"doc:1#read = user:a", "group:g#member = user:a")
	for _, n := range []string{"doc:1#read", "group:g#member"} {
		if !s.Has(node(n), node("user:a")) {
			t.Error(n)
		}
	}
}

// P16.1
func TestThis(t *testing.T) {
	const text = "type u {} type g { rel m (m, m, m): u, g, g#m, g#n; rel n (m, m, m): u; }"
	hold(t, text, "")
	hold(t, text, "g:1#m@u:a", "g:1#m = u:a")
	hold(t, text, "g:1#m@u:b g:1#m@u:a g:1#m@g:2", "g:1#m = g:2 u:a u:b")
	// An object is itself a member, not those that are in a relation of it; a relation isn't, but those that are in it.
	hold(t, text, "g:1#m@g:2 g:2#m@u:a", "g:1#m = g:2", "g:2#m = u:a")
	hold(t, text, "g:1#m@g:2#m g:2#m@u:a", "g:1#m = u:a", "g:2#m = u:a")
	hold(t, text, "g:1#m@g:2#n g:2#m@u:a g:2#n@u:b", "g:1#m = u:b", "g:2#m = u:a", "g:2#n = u:b")
	hold(t, text, "g:1#m@g:2#m g:2#m@g:3#m g:3#m@g:4#m", "")
	hold(t, text, "g:1#m@g:1#m", "")
	hold(t, text, "g:1#m@g:1", "g:1#m = g:1")
	// It goes round, whichever way.
	hold(t, text, "g:1#m@g:1#m g:1#m@u:a", "g:1#m = u:a")
	hold(t, text, "g:1#m@g:2#m g:2#m@g:3#m g:3#m@g:1#m g:2#m@u:a", "g:1#m = u:a", "g:2#m = u:a", "g:3#m = u:a")
	hold(t, text, "g:3#m@g:2#m g:2#m@g:1#m g:1#m@g:3#m g:2#m@u:a", "g:1#m = u:a", "g:2#m = u:a", "g:3#m = u:a")
}

// P16.1
func TestSame(t *testing.T) {
	const text = "type u {} type d { rel a (a, a, a): u is b; rel b (a, a, a): u is c | this; rel c (a, a, a): u, d#b; }"
	hold(t, text, "d:1#c@u:c d:1#b@u:b d:2#c@u:x", "d:1#a = u:b u:c", "d:1#b = u:b u:c", "d:1#c = u:c", "d:2#a = u:x", "d:2#b = u:x", "d:2#c = u:x")
	// Without This a node's own tuples lay nothing.
	hold(t, text, "d:1#a@u:a", "")
	hold(t, text, "d:1#a@u:a d:1#b@u:b", "d:1#a = u:b", "d:1#b = u:b")
	// A Same and a This, round.
	hold(t, text, "d:1#c@d:2#b d:2#c@d:1#b d:2#b@u:a", "d:1#a = u:a", "d:1#b = u:a", "d:1#c = u:a", "d:2#a = u:a", "d:2#b = u:a", "d:2#c = u:a")
	hold(t, "type u {} type d { rel a (a, a, a): u is a; rel b (a, a, a): u is b | this; }", "d:1#a@u:a d:1#b@u:a", "d:1#b = u:a")
}

// P16.1
func TestVia(t *testing.T) {
	const text = "type u {} type f { rel r (r, r, r): u; rel x (r, r, r): u; } type g { rel m (m, m, m): u; }" +
		" type d { rel up (up, up, up): f, d, g, u, f#r; rel only (up, up, up): f; rel r (up, up, up): u is up.r; rel m (up, up, up): u is only.x | up.m; }"
	hold(t, text, "d:1#up@f:1 f:1#r@u:a f:1#x@u:b", "d:1#r = u:a", "d:1#up = f:1", "f:1#r = u:a", "f:1#x = u:b")
	// Of several ones all, and of each the relation of its own type.
	hold(t, text, "d:1#up@f:1 d:1#up@d:2 d:2#up@f:2 f:1#r@u:a f:2#r@u:b", "d:1#r = u:a u:b", "d:1#up = d:2 f:1", "d:2#r = u:b", "d:2#up = f:2", "f:1#r = u:a", "f:2#r = u:b")
	// A type without that relation is passed by.
	hold(t, text, "d:1#up@g:1 d:1#up@u:1 g:1#m@u:a", "d:1#m = u:a", "d:1#up = g:1 u:1", "g:1#m = u:a")
	// A Who with a Rel leads nowhere, though its members are those of the first relation, and though its object has the next one.
	hold(t, text, "d:1#up@f:1#r f:1#r@u:a", "d:1#up = u:a", "f:1#r = u:a")
	// What is a member of the first relation without a tuple leads nowhere, either.
	hold(t, "type u {} type f { rel r (r, r, r): u; } type d { rel in (in, in, in): f; rel up (in, in, in): f is in | this; rel r (in, in, in): u is up.r; }",
		"d:1#in@f:1 f:1#r@u:a", "d:1#in = f:1", "d:1#up = f:1", "f:1#r = u:a")
	// And a tuple of the first relation leads on, though it makes no member of that.
	hold(t, "type u {} type f { rel r (r, r, r): u; } type d { rel in (in, in, in): f; rel up (in, in, in): f is in; rel r (in, in, in): u is up.r; }",
		"d:1#up@f:1 f:1#r@u:a", "d:1#r = u:a", "f:1#r = u:a")
	// Round.
	hold(t, text, "d:1#up@d:2 d:2#up@d:1 d:1#up@d:1 d:2#up@f:1 f:1#r@u:a", "d:1#r = u:a", "d:1#up = d:1 d:2", "d:2#r = u:a", "d:2#up = d:1 f:1", "f:1#r = u:a")
	hold(t, text, "d:1#up@d:2 d:2#up@d:1", "d:1#up = d:2", "d:2#up = d:1")
	// Nobody else has tuples.
	hold(t, text, "d:1#up@d:2 d:1#up@f:3", "d:1#up = d:2 f:3")
}

// P16.1: a and b, with all of one in the middle, by each sign.
func TestSigns(t *testing.T) {
	const head = "type u {} type d { rel a (a, a, a): u; rel b (a, a, a): u; rel c (a, a, a): u; rel r (a, a, a): u is "
	const tuples = "d:1#a@u:1 d:1#a@u:2 d:1#a@u:3 d:1#a@u:4 d:1#b@u:2 d:1#b@u:3 d:1#b@u:5 d:1#b@u:6 d:1#c@u:3 d:1#c@u:4 d:1#c@u:6 d:1#c@u:7 d:1#r@u:8 d:1#r@u:1"
	for _, c := range []struct{ rewrite, want string }{
		{"a", "1234"},
		{"this", "18"},
		{"a | b", "123456"},
		{"a & b", "23"},
		{"a - b", "14"},
		{"b - a", "56"},
		{"a - a", ""},
		{"a | b | c", "1234567"},
		{"a & b & c", "3"},
		{"a - b - c", "1"},
		{"a - (b - c)", "134"},
		{"a - (b | c)", "1"},
		{"a - (b & c)", "124"},
		{"a | b & c", "346"},
		{"a | (b & c)", "12346"},
		{"a & b | c", "23467"},
		{"a & (b | c)", "234"},
		{"a - b | c", "13467"},
		{"a - b & c", "4"},
		{"a | b - c", "125"},
		{"a - (this - b)", "234"},
		{"this - (a - (b - c))", "8"},
		{"this | (a - (b - (c - this)))", "1348"},
		{"(a | b) & (b | c)", "23456"},
		{"this & a | this", "18"},
	} {
		s := All(compiled(t, head+c.rewrite+"; }"), ofAll(tuples))
		var got string
		for _, n := range s.Members(node("d:1#r")) {
			got += n.Id
		}
		if got != c.want {
			t.Errorf("%s: %s, want %s", c.rewrite, got, c.want)
		}
	}
}

// P16.1: each level is told with all of the lower ones, not with what they are on the way.
func TestLevels(t *testing.T) {
	const text = "type u {} type g { rel m (m, m, m): u, g#m; rel all (m, m, m): u; rel out (m, m, m): g#out is all - m; rel in (m, m, m): u is all - out; }"
	s := hold(t, text, "g:1#m@g:2#m g:2#m@g:3#m g:3#m@u:a g:1#all@u:a g:1#all@u:b g:3#all@u:a g:3#all@u:c",
		"g:1#all = u:a u:b", "g:1#in = u:a", "g:1#m = u:a", "g:1#out = u:b", "g:2#m = u:a", "g:3#all = u:a u:c", "g:3#in = u:a", "g:3#m = u:a", "g:3#out = u:c")
	if l := shown(s.Of(node("u:a"))); l != "g:1#all g:1#in g:1#m g:2#m g:3#all g:3#in g:3#m" {
		t.Error(l)
	}
	// Who is taken away comes in round, by groups that lead to each other.
	hold(t, text, "g:1#all@u:a g:1#m@g:2#m g:2#m@g:1#m g:2#m@g:3#m g:3#m@g:2#m g:3#m@u:a",
		"g:1#all = u:a", "g:1#in = u:a", "g:1#m = u:a", "g:2#m = u:a", "g:3#m = u:a")
	// What is taken away belongs to another object.
	hold(t, "type u {} type d { rel up (up, up, up): d; rel own (up, up, up): u; rel r (up, up, up): u is own - up.r2; rel r2 (up, up, up): u is own; }",
		"d:1#up@d:2 d:1#own@u:a d:1#own@u:b d:2#own@u:a", "d:1#own = u:a u:b", "d:1#r = u:b", "d:1#r2 = u:a u:b", "d:1#up = d:2", "d:2#own = u:a", "d:2#r = u:a", "d:2#r2 = u:a")
}

// P16.1: And of two that go round with it.
func TestAndGoesRound(t *testing.T) {
	const text = "type u {} type g { rel m (m, m, m): u, g#m, g#n is this & n; rel n (m, m, m): u, g#m is this | m; }"
	hold(t, text, "g:1#m@u:a", "")
	hold(t, text, "g:1#m@g:1#n g:1#n@g:1#m", "")
	hold(t, text, "g:1#m@u:a g:1#n@g:2#m g:2#m@u:a g:2#n@u:a", "g:1#m = u:a", "g:1#n = u:a", "g:2#m = u:a", "g:2#n = u:a")
	hold(t, text, "g:2#m@u:a g:2#n@g:1#m g:1#m@u:a g:1#n@u:a", "g:1#m = u:a", "g:1#n = u:a", "g:2#m = u:a", "g:2#n = u:a")
}

// P16.1: of tuples that aren't right nothing comes, and nobody is there by them.
func TestWhatCounts(t *testing.T) {
	const good = "doc:1#up@doc:2 doc:2#own@user:a"
	want := []string{"doc:1#read = user:a", "doc:1#up = doc:2", "doc:2#own = user:a", "doc:2#read = user:a"}
	hold(t, schema, good, want...)
	for _, bad := range []string{
		"doc:1#read@none:b", "none:1#read@user:b", "doc:1#none@user:b", "doc:1#read@group:g#none", "doc:1#read@user:b#member", "x:1#y@z:2",
		"doc:1#read@doc:1", "doc:1#own@group:g#member", "doc:1#read@group:g", "doc:1#read@group:g#admin", "doc:1#read@doc:2#own", "user:a#own@user:b", "doc:1#up@doc:2#own",
	} {
		hold(t, schema, good+" "+bad, want...)
		hold(t, schema, bad+" "+good+" "+bad, want...)
		hold(t, schema, bad, "")
	}
	x := compiled(t, schema)
	user := node("user:b")
	for _, bad := range []api.Tuple{
		{}, {Node: node("doc:1#read")}, {Who: user}, {Node: node("doc:1"), Who: user}, {Node: api.Node{Type: "doc", Rel: "read"}, Who: user},
		{Node: api.Node{Type: "doc", Id: "a-b", Rel: "read"}, Who: user}, {Node: node("doc:1#read"), Who: api.Node{Type: "user"}},
		{Node: node("doc:1#read"), Who: api.Node{Type: "user", Id: "\x00"}}, {Node: node("doc:1#read"), Who: api.Node{Type: "user", Id: strings.Repeat("a", 25)}},
	} {
		if got := lines(All(x, append(ofAll(good), bad))); got != strings.Join(want, "\n") {
			t.Errorf("%q: %s", bad, got)
		}
	}
	// By a table without types none is.
	if got := lines(All(table.Table{}, ofAll(good))); got != "" {
		t.Error(got)
	}
}

// P16.1
func TestHas(t *testing.T) {
	s := All(compiled(t, schema), ofAll("doc:1#read@group:g#member group:g#member@user:a doc:1#up@folder:f"))
	for _, c := range []struct {
		node, who string
		want      bool
	}{
		{"doc:1#read", "user:a", true},
		{"doc:1#up", "folder:f", true},
		{"doc:1#read", "user:b", false},
		{"doc:1#own", "user:a", false},
		{"doc:2#read", "user:a", false},
		{"doc:1", "user:a", false},
		{"folder:f", "folder:f", false},
		{"doc:1#read", "group:g#member", false}, // it stands in the tuple, but no member has a Rel
		{"doc:1#read", "group:g", false},
		{"doc:1#read", "user:a#member", false},
		{"doc:1#none", "user:a", false},
		{"none:1#read", "user:a", false},
		{"user:a", "doc:1#read", false},
		{"", "", false},
		{"doc:1#read", "", false},
		{"", "user:a", false},
	} {
		n, who := node(c.node), node(c.who)
		if s.Has(n, who) != c.want || slices.Contains(s.Members(n), who) != c.want || slices.Contains(s.Of(who), n) != c.want {
			t.Errorf("%s of %s: %v, %v, %v", c.who, c.node, s.Has(n, who), s.Members(n), s.Of(who))
		}
	}
}

// P16.1: names are held byte by byte, one ahead of the next one.
func TestOrder(t *testing.T) {
	const text = "type u {} type t { rel r (r, r, r): u, t, tt, é, Z; rel q (r, r, r): u; } type tt { rel r (r, r, r): u; } type é { rel r (r, r, r): u; } type Z { rel r (r, r, r): u; }"
	s := All(compiled(t, text), ofAll("t:1#r@é:1 t:1#r@u:z t:1#r@u:é t:1#r@u:a t:1#r@u:10 t:1#r@u:9 t:1#r@u:1 t:1#r@tt:0 t:1#r@t:9 t:1#r@Z:9 t:1#r@u:Z t:1#r@u:_ t:1#r@u:aa"+
		" é:1#r@u:a t:2#r@u:a t:10#r@u:a t:10#q@u:a t:é#r@u:a tt:1#r@u:a Z:1#r@u:a t:a#r@u:a t:_#r@u:a t:Z#r@u:a t:z#r@u:a"))
	if l := shown(s.Members(node("t:1#r"))); l != "Z:9 t:9 tt:0 u:1 u:10 u:9 u:Z u:_ u:a u:aa u:z u:é é:1" {
		t.Error(l)
	}
	const first, behind = "Z:1#r t:1#r t:10#q t:10#r t:2#r", "t:Z#r t:_#r t:a#r t:z#r t:é#r tt:1#r é:1#r"
	if l := shown(s.Nodes()); l != first+" "+behind {
		t.Error(l)
	}
	if l := shown(s.Of(node("u:a"))); l != first+" "+behind {
		t.Error(l)
	}
	if l := shown(s.Of(node("u:é"))); l != "t:1#r" {
		t.Error(l)
	}
}

// P16.1: only those with members are Nodes, though others are there.
func TestNodes(t *testing.T) {
	s := All(compiled(t, schema), ofAll("doc:1#read@group:g#member doc:2#ban@user:a doc:2#read@user:a doc:3#up@doc:4 group:h#admin@user:b"))
	if l := shown(s.Nodes()); l != "doc:2#ban doc:3#up group:h#admin group:h#member" {
		t.Error(l)
	}
	if l := s.Members(node("doc:1#read")); len(l) != 0 {
		t.Error(l)
	}
}

// P16.1
func TestNone(t *testing.T) {
	var zero Sets
	for _, s := range []Sets{zero, {}, All(table.Table{}, nil), All(compiled(t, schema), nil), All(compiled(t, ""), ofAll("doc:1#own@user:a"))} {
		for _, n := range []api.Node{{}, node("doc:1#own"), node("user:a")} {
			if s.Has(n, node("user:a")) || s.Has(n, api.Node{}) || len(s.Members(n)) != 0 || len(s.Of(n)) != 0 || len(s.Nodes()) != 0 {
				t.Error(n)
			}
		}
	}
}

// P16.1: what is answered, and handed in, may be changed.
func TestNewMemory(t *testing.T) {
	x, l := compiled(t, schema), ofAll("doc:1#read@user:b doc:1#read@user:a doc:1#up@doc:2 doc:2#own@user:c")
	was := slices.Clone(l)
	s := All(x, l)
	if !slices.Equal(l, was) {
		t.Error(l)
	}
	again, want := s, lines(s)
	clear(l)
	for range 2 {
		for _, got := range [][]api.Node{s.Members(node("doc:1#read")), s.Nodes(), s.Of(node("user:c"))} {
			if len(got) == 0 {
				t.Fatal("none")
			}
			clear(got[:cap(got)])
		}
	}
	if lines(s) != want || lines(again) != want || !s.Has(node("doc:1#read"), node("user:c")) {
		t.Error(lines(s))
	}
	// One is nothing to another one of the same table.
	if lines(All(x, was[:1])) != "doc:1#read = user:b" || lines(s) != want {
		t.Error(lines(s))
	}
}

// P16.2: as often as it is told, and in whatever order.
func TestOrderAndTimesPlayNoPart(t *testing.T) {
	x := compiled(t, schema)
	l := ofAll("doc:1#up@doc:2 doc:2#up@folder:f folder:f#read@group:g#member group:g#admin@user:a group:g#member@user:b doc:1#ban@user:b")
	want := "doc:1#ban = user:b\ndoc:1#read = user:a\ndoc:1#up = doc:2\ndoc:2#read = user:a user:b\ndoc:2#up = folder:f\nfolder:f#read = user:a user:b\ngroup:g#admin = user:a\ngroup:g#member = user:a user:b"
	for range l {
		l = append(l[1:len(l):len(l)], l[0])
		back := slices.Clone(l)
		slices.Reverse(back)
		for _, some := range [][]api.Tuple{l, back, append(slices.Clone(l), back...), slices.Repeat(l, 5)} {
			if got := lines(All(x, some)); got != want {
				t.Fatalf("%v: %s", some, got)
			}
		}
	}
}

// group is the text of a number's group, with its members.
func group(i int) string { return "group:" + strconv.Itoa(i) + "#member" }

// P16.1: long ways, from either end, and rings of them, come to an end.
func TestLongWays(t *testing.T) {
	x := compiled(t, schema)
	for _, n := range []int{1, 2, 3000} {
		var on, back []api.Tuple
		for i := range n {
			on = append(on, of(group(i)+"@"+group(i+1)))
			back = append(back, of(group(i+1)+"@"+group(i)))
		}
		user := of(group(n) + "@user:a")
		ring := append(slices.Clone(on), of(group(n)+"@"+group(0)), of(group(n/2)+"@user:a"))
		for _, l := range [][]api.Tuple{append(slices.Clone(on), user), append(append(slices.Clone(on), back...), user), ring} {
			s := All(x, l)
			if got := len(s.Of(node("user:a"))); got != n+1 {
				t.Errorf("%d of %d", got, n+1)
			}
		}
		if got := All(x, append(back, user)).Of(node("user:a")); len(got) != 1 || got[0] != node(group(n)) {
			t.Error(got)
		}
	}
}

// P16.1: of groups that are all in each other, each with somebody of its own, all have all.
func TestAllInAll(t *testing.T) {
	x := compiled(t, schema)
	const n = 60
	var l []api.Tuple
	for i := range n {
		l = append(l, of(group(i)+"@user:"+strconv.Itoa(i)))
		for k := range n {
			l = append(l, of(group(i)+"@"+group(k)))
		}
	}
	s := All(x, l)
	for i := range n {
		if got := len(s.Members(node(group(i)))); got != n {
			t.Errorf("%d of %d", got, n)
		}
	}
	if got := len(s.Nodes()); got != n {
		t.Error(got)
	}
}
