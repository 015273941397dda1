package eval

import (
	"cmp"
	"math/rand"
	"slices"
	"strings"
	"testing"

	"doorman/api"
	"doorman/table"
	"doorman/tuple"
)

// told is the members of all nodes as the document tells them: level by level, each one again and again from none on, in lists without an order.
type told struct {
	table   table.Table
	tuples  []api.Tuple // that count
	members map[api.Node][]api.Node
}

// newTold is that of a table and tuples.
func newTold(x table.Table, l []api.Tuple) told {
	m := told{table: x, members: map[api.Node][]api.Node{}}
	for _, one := range l {
		if tuple.Right(x, one) == api.OK {
			m.tuples = append(m.tuples, one)
		}
	}
	nodes := m.nodes()
	for level := range x.Len() {
		for other := true; other; {
			other = false
			next := map[api.Node][]api.Node{}
			for _, n := range nodes {
				id, _ := x.Id(n.Type, n.Rel)
				if x.Level(id) == level {
					next[n] = m.done(n, x.Ops(id))
				}
			}
			for n, l := range next {
				other = other || !slices.Equal(l, m.members[n])
				m.members[n] = l
			}
		}
	}
	return m
}

// nodes are those of all objects that are there.
func (m told) nodes() []api.Node {
	var l []api.Node
	for _, x := range m.tuples {
		for _, n := range []api.Node{x.Node, x.Who} {
			for id := range m.table.Len() {
				typ, rel := m.table.Path(id)
				if typ == n.Type {
					l = append(l, api.Node{Type: typ, Id: n.Id, Rel: rel})
				}
			}
		}
	}
	return ordered(l)
}

// done is what a node's operations leave of what is told so far.
func (m told) done(n api.Node, ops []table.Op) []api.Node {
	var pile [][]api.Node
	for _, o := range ops {
		_, rel := m.table.Path(o.Rel)
		object := api.Node{Type: n.Type, Id: n.Id, Rel: rel}
		var out []api.Node
		switch o.Kind {
		case table.This:
			for _, x := range m.tuples {
				if x.Node == n && x.Who.Rel == "" {
					out = append(out, x.Who)
				} else if x.Node == n {
					out = append(out, m.members[x.Who]...)
				}
			}
		case table.Same:
			out = m.members[object]
		case table.Via:
			for _, x := range m.tuples {
				if _, has := m.table.Id(x.Who.Type, o.Next); x.Node == object && x.Who.Rel == "" && has {
					out = append(out, m.members[api.Node{Type: x.Who.Type, Id: x.Who.Id, Rel: o.Next}]...)
				}
			}
		default:
			lower, upper := pile[len(pile)-2], pile[len(pile)-1]
			pile = pile[:len(pile)-2]
			for _, who := range slices.Concat(lower, upper) {
				low, up := slices.Contains(lower, who), slices.Contains(upper, who)
				if o.Kind == table.Or || o.Kind == table.And && low && up || o.Kind == table.Not && low && !up {
					out = append(out, who)
				}
			}
		}
		pile = append(pile, ordered(out))
	}
	return pile[0]
}

// ordered are nodes in order, each once.
func ordered(l []api.Node) []api.Node {
	l = slices.Clone(l)
	slices.SortFunc(l, func(a, b api.Node) int {
		return cmp.Or(strings.Compare(a.Type, b.Type), strings.Compare(a.Id, b.Id), strings.Compare(a.Rel, b.Rel))
	})
	return slices.Compact(l)
}

// hold holds all that sets answer of some nodes against what is told.
func (m told) hold(t *testing.T, s Sets, pool []api.Node) {
	t.Helper()
	var nodes []api.Node
	for _, n := range m.nodes() {
		if len(m.members[n]) > 0 {
			nodes = append(nodes, n)
		}
	}
	if got := s.Nodes(); !slices.Equal(got, nodes) {
		t.Fatalf("%s\n%v\nNodes: %s, want %s", m.table.Text(), m.tuples, shown(got), shown(nodes))
	}
	of := map[api.Node][]api.Node{}
	for _, n := range nodes {
		for _, who := range m.members[n] {
			of[who] = append(of[who], n)
		}
	}
	for _, n := range pool {
		if got := s.Members(n); !slices.Equal(got, m.members[n]) {
			t.Fatalf("%s\n%v\nMembers of %v: %s, want %s", m.table.Text(), m.tuples, n, shown(got), shown(m.members[n]))
		}
		if got := s.Of(n); !slices.Equal(got, of[n]) {
			t.Fatalf("%s\n%v\nOf %v: %s, want %s", m.table.Text(), m.tuples, n, shown(got), shown(of[n]))
		}
		for _, who := range pool {
			if s.Has(n, who) != slices.Contains(m.members[n], who) {
				t.Fatalf("%s\n%v\n%v of %v: %v", m.table.Text(), m.tuples, who, n, s.Has(n, who))
			}
		}
	}
}

// draw draws schemas and tuples.
type draw struct{ *rand.Rand }

// of draws one of them.
func (d draw) of(l ...string) string { return l[d.Intn(len(l))] }

// types, rels and ids are all that types, relations and objects of drawn schemas and tuples are called.
func types() []string { return []string{"u", "a", "b"} }
func rels() []string  { return []string{"p", "q", "r", "s"} }
func ids() []string   { return []string{"1", "2", "é"} }

// rewrite draws a rewrite of some parts.
func (d draw) rewrite(parts int, signs ...string) string {
	if parts > 1 {
		ahead := 1 + d.Intn(parts-1)
		return "(" + d.rewrite(ahead, signs...) + d.of(signs...) + d.rewrite(parts-ahead, signs...) + ")"
	}
	switch d.Intn(3) {
	case 0:
		return "this"
	case 1:
		return d.of(rels()...)
	default:
		return d.of(rels()...) + "." + d.of(rels()...)
	}
}

// subs draws who may stand in a relation's tuples: among them objects of a or b, so that each Via leads somewhere.
func (d draw) subs() string {
	l := []string{d.of("a", "b")}
	for range d.Intn(3) {
		sub := d.of(types()...)
		if sub != "u" && d.Intn(3) > 0 {
			sub += "#" + d.of(rels()...)
		}
		if !slices.Contains(l, sub) {
			l = append(l, sub)
		}
	}
	return strings.Join(l, ", ")
}

// table draws the table of a schema with these signs.
func (d draw) table(signs ...string) table.Table {
	for {
		text := "type u {}"
		for _, typ := range []string{"a", "b"} {
			text += " type " + typ + " {"
			for _, rel := range rels() {
				text += " rel " + rel + " (p, p, p): " + d.subs() + " is " + d.rewrite(1+d.Intn(4), signs...) + ";"
			}
			text += " }"
		}
		if x, e := table.Compile(text); e == api.OK { // else it goes round
			return x
		}
	}
}

// tuples draws some, most of which are right by a table.
func (d draw) tuples(x table.Table, n int) []api.Tuple {
	var l []api.Tuple
	for len(l) < n {
		one := api.Tuple{
			Node: api.Node{Type: d.of(types()...), Id: d.of(ids()...), Rel: d.of(rels()...)},
			Who:  api.Node{Type: d.of(types()...), Id: d.of(ids()...), Rel: d.of(append(rels(), "", "", "", "")...)},
		}
		if d.Intn(60) == 0 || tuple.Right(x, one) == api.OK {
			l = append(l, one)
		}
	}
	return l
}

// pool are all nodes that might be told of, and some that none tells of.
func pool() []api.Node {
	l := []api.Node{{}, {Type: "a"}, {Type: "a", Rel: "p"}, {Type: "x", Id: "1", Rel: "p"}, {Type: "a", Id: "x", Rel: "p"}, {Type: "a", Id: "1", Rel: "x"}}
	for _, typ := range types() {
		for _, id := range ids() {
			for _, rel := range append(rels(), "") {
				l = append(l, api.Node{Type: typ, Id: id, Rel: rel})
			}
		}
	}
	return l
}

// P16.1: of drawn schemas and tuples.
func TestDrawn(t *testing.T) {
	d := draw{rand.New(rand.NewSource(16))}
	levels, members := map[int]int{}, 0
	for range 1200 {
		x := d.table("|", "|", "&", "-")
		for id := range x.Len() {
			levels[x.Level(id)]++
		}
		for _, n := range []int{1 + d.Intn(12), 40} {
			l := d.tuples(x, n)
			m := newTold(x, l)
			m.hold(t, All(x, l), pool())
			for _, l := range m.members {
				members += len(l)
			}
		}
	}
	if levels[0] < 1000 || levels[1] < 500 || levels[2] < 30 || members < 10000 {
		t.Error(levels, members)
	}
}

// P16.2: of drawn schemas and tuples that come again, in another order.
func TestDrawnOrder(t *testing.T) {
	d := draw{rand.New(rand.NewSource(162))}
	for range 500 {
		x := d.table("|", "|", "&", "-")
		l := d.tuples(x, 1+d.Intn(30))
		want := lines(All(x, l))
		for range 3 {
			l = append(l, l[d.Intn(len(l))])
			d.Shuffle(len(l), func(i, j int) { l[i], l[j] = l[j], l[i] })
			if got := lines(All(x, l)); got != want {
				t.Fatalf("%s\n%v\n%s\nwant\n%s", x.Text(), l, got, want)
			}
		}
	}
}

// P16.2: without Not nobody is a member any less by a tuple more.
func TestDrawnMore(t *testing.T) {
	d := draw{rand.New(rand.NewSource(1602))}
	more, fewer := 0, 0
	for range 500 {
		x := d.table("|", "|", "&")
		l := d.tuples(x, 2+d.Intn(30))
		was := All(x, l[:len(l)/2])
		s := All(x, l)
		for _, n := range was.Nodes() {
			for _, who := range was.Members(n) {
				if !s.Has(n, who) {
					t.Fatalf("%s\n%v\n%v is no member of %v any more", x.Text(), l, who, n)
				}
			}
		}
		if len(s.Nodes()) > len(was.Nodes()) {
			more++
		}
		x = d.table("|", "-")
		l = d.tuples(x, 2+d.Intn(30))
		was, s = All(x, l[:len(l)/2]), All(x, l)
		for _, n := range was.Nodes() {
			if len(s.Members(n)) == 0 {
				fewer++
			}
		}
	}
	if more < 300 || fewer == 0 { // with Not there are some
		t.Error(more, fewer)
	}
}
