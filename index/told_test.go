package index

import (
	"maps"
	"math/rand"
	"slices"
	"strings"
	"testing"

	"doorman/api"
	"doorman/eval"
	"doorman/table"
	"doorman/tuple"
)

// told is what the document tells of an index: which sets each revision has, and how often was asked.
type told struct {
	revs   map[int]eval.Sets
	probes int
}

// sets are those of a revision; without members, if it isn't there.
func (m *told) sets(rev int) eval.Sets {
	m.probes++
	return m.revs[rev]
}

// has, nextWho and nextId go through all that a revision's sets have, in whatever order, and keep the least one that may be told.
func (m *told) has(rev int, node, who api.Node) bool { return m.sets(rev).Has(node, who) }

func (m *told) nextWho(rev int, node, after api.Node) (least api.Node, is bool) {
	for _, who := range m.sets(rev).Members(node) {
		if below(after, who) && (!is || below(who, least)) {
			least, is = who, true
		}
	}
	return least, is
}

func (m *told) nextId(rev int, typ, after string, conds []Cond) (least string, is bool) {
	s := m.sets(rev)
	for _, n := range s.Nodes() {
		fails := func(c Cond) bool {
			return !slices.Contains(s.Members(api.Node{Type: typ, Id: n.Id, Rel: c.Rel}), c.Who)
		}
		if n.Type == typ && n.Id > after && len(conds) > 0 && !slices.ContainsFunc(conds, fails) && (!is || n.Id < least) {
			least, is = n.Id, true
		}
	}
	return least, is
}

// below tells whether an object stands ahead of another one.
func below(a, b api.Node) bool { return a.Type < b.Type || a.Type == b.Type && a.Id < b.Id }

// draw draws sets, and what is asked.
type draw struct {
	*rand.Rand
	table table.Table
}

// of draws one of them.
func (d draw) of(l ...string) string { return l[d.Intn(len(l))] }

// typ and id draw names, few of which nobody has.
func (d draw) typ() string { return d.of("d", "d", "d", "d", "d", "d", "g", "dd", "é", "u", "x") }
func (d draw) id() string  { return d.of("1", "1", "10", "2", "Z", "a", "aa", "é") }

// rel draws one of a type's, mostly.
func (d draw) rel(typ string) string {
	if typ == "g" {
		return d.of("m", "m", "m", "a")
	}
	return d.of("a", "a", "a", "a", "b", "b", "c", "x")
}

// node and who draw a relation of an object, and mostly an object.
func (d draw) node() api.Node {
	typ := d.typ()
	return api.Node{Type: typ, Id: d.id(), Rel: d.rel(typ)}
}

func (d draw) who() api.Node {
	n := api.Node{Type: d.of("u", "u", "u", "u", "u", "u", d.typ()), Id: d.of("1", "1", "1", "2", "2", d.id())}
	if d.Intn(20) == 0 {
		n.Rel = d.rel(n.Type)
	}
	return n
}

// after draws an object, of which a name, or all, may be empty, or a text that is no name.
func (d draw) after() api.Node {
	return api.Node{Type: d.of("", "d", "u", "u", "u", d.typ(), "\xff"), Id: d.of("", d.id(), d.id(), "\x00", "é\x00"), Rel: d.of("", "", "a")}
}

// sets draws those of up to so many tuples.
func (d draw) sets(most int) eval.Sets {
	var l []api.Tuple
	for n := d.Intn(most + 1); len(l) < n; {
		x := api.Tuple{Node: d.node(), Who: d.who()}
		if d.Intn(3) == 0 {
			x.Who.Type, x.Who.Rel = "g", "m"
		}
		if tuple.Right(d.table, x) == api.OK {
			l = append(l, x)
		}
	}
	return eval.All(d.table, l)
}

// conds draws some of a type, so many at least.
func (d draw) conds(typ string, least int) []Cond {
	var l []Cond
	for len(l) < least || d.Intn(5) < 2 {
		l = append(l, Cond{d.rel(typ), d.who()})
	}
	return l
}

// doBoth does a drawn step with both, and tells whether it asked for something that is there.
func (d draw) doBoth(t *testing.T, x *Index, m *told) bool {
	t.Helper()
	rev := d.Intn(7) - 1
	switch d.Intn(12) {
	case 0, 1:
		s := d.sets(60)
		x.Tell(rev, s)
		m.revs[rev] = s
	case 2:
		rev -= d.Intn(9)
		x.Trim(rev)
		maps.DeleteFunc(m.revs, func(other int, _ eval.Sets) bool { return other < rev })
	case 3, 4, 5:
		n, who := d.node(), d.who()
		got, want := x.Has(rev, n, who), m.has(rev, n, who)
		if got != want {
			t.Fatalf("at %d %v of %v: %v", rev, who, n, got)
		}
		return want
	case 6, 7, 8:
		n, after := d.node(), d.after()
		got, is := x.NextWho(rev, n, after)
		want, there := m.nextWho(rev, n, after)
		if got != want || is != there {
			t.Fatalf("at %d of %v behind %q: %v %v, want %v %v", rev, n, after, got, is, want, there)
		}
		return there
	default:
		typ, after := d.typ(), d.after().Id
		l := d.conds(typ, 0)
		got, is := x.NextId(rev, typ, after, l...)
		want, there := m.nextId(rev, typ, after, l)
		if got != want || is != there {
			t.Fatalf("at %d of %s behind %q with %v: %q %v, want %q %v", rev, typ, after, l, got, is, want, there)
		}
		return there
	}
	return false
}

// newDraw is one of a seed.
func newDraw(t *testing.T, seed int64) draw {
	t.Helper()
	x, e := table.Compile(schema)
	if e != api.OK {
		t.Fatal(e)
	}
	return draw{rand.New(rand.NewSource(seed)), x}
}

// P17.1 to P17.3: drawn steps answer as told, whatever was done ahead of them.
func TestDrawnSteps(t *testing.T) {
	d := newDraw(t, 17)
	there := 0
	for range 400 {
		x, m := New(), &told{revs: map[int]eval.Sets{}}
		for range 100 {
			if d.doBoth(t, x, m) {
				there++
			}
			holdRevs(t, x, slices.Sorted(maps.Keys(m.revs))...)
			if got := x.Probes(); got != m.probes {
				t.Fatalf("%d, want %d", got, m.probes)
			}
		}
	}
	if there < 2000 {
		t.Error(there)
	}
}

// P17.4: of drawn sets each member, and each object of which drawn conditions hold, is told once, in order.
func TestDrawnOneByOne(t *testing.T) {
	d := newDraw(t, 174)
	members, objects := 0, 0
	for range 300 {
		s, x := d.sets(60), New()
		x.Tell(1, eval.Sets{})
		x.Tell(2, s)
		x.Tell(3, d.sets(20))
		for _, n := range append(s.Nodes(), d.node()) {
			var want []string
			for _, who := range s.Members(n) {
				want = append(want, tuple.Show(who))
			}
			members += len(want)
			if got := shown(x, 2, n); got != strings.Join(want, " ") {
				t.Fatalf("%v: %s, want %s", n, got, strings.Join(want, " "))
			}
		}
		for range 20 {
			typ := d.typ()
			l := d.conds(typ, 1)
			found := map[string]struct{}{}
			for _, n := range s.Nodes() {
				if n.Type == typ && !slices.ContainsFunc(l, func(c Cond) bool { return !s.Has(api.Node{Type: typ, Id: n.Id, Rel: c.Rel}, c.Who) }) {
					found[n.Id] = struct{}{}
				}
			}
			want := strings.Join(slices.Sorted(maps.Keys(found)), " ")
			objects += len(found)
			if got := ids(x, 2, typ, l...); got != want {
				t.Fatalf("%s with %v: %s, want %s", typ, l, got, want)
			}
		}
	}
	if members < 5000 || objects < 500 {
		t.Error(members, objects)
	}
}
