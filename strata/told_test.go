package strata

import (
	"math/rand"
	"slices"
	"testing"

	"doorman/api"
	"doorman/check"
	"doorman/parse"
)

// tree is a rewrite as a tree: one operation, or a sign with what stands ahead of it and behind it.
type tree struct {
	op            parse.Op
	ahead, behind *tree
}

// ops are a tree's operations, as they are done.
func (t *tree) ops() []parse.Op {
	if t.ahead == nil {
		return []parse.Op{t.op}
	}
	return append(append(t.ahead.ops(), t.behind.ops()...), t.op)
}

// leaves tells of each operation that is no sign, and whether a Not takes it away.
func (t *tree) leaves(taken bool, tell func(o parse.Op, taken bool)) {
	if t.ahead == nil {
		tell(t.op, taken)
		return
	}
	t.ahead.leaves(taken, tell)
	t.behind.leaves(taken || t.op.Kind == parse.Not, tell)
}

// place is a type's and a relation's place.
type place struct{ typ, rel int }

// rewrites are trees by the places of their relations.
type rewrites map[place]*tree

// draw draws schemas and edges.
type draw struct{ *rand.Rand }

// tree draws a tree of so many operations that are no signs.
func (d draw) tree(leaves []parse.Op, n int) *tree {
	if n == 1 {
		return &tree{op: leaves[d.Intn(len(leaves))]}
	}
	ahead := 1 + d.Intn(n-1)
	sign := parse.Op{Kind: []int{parse.Or, parse.And, parse.Not}[d.Intn(3)]}
	return &tree{sign, d.tree(leaves, ahead), d.tree(leaves, n-ahead)}
}

// some draws some of those names, of which at least one.
func (d draw) some(l ...string) []string {
	d.Shuffle(len(l), func(i, j int) { l[i], l[j] = l[j], l[i] })
	return l[:1+d.Intn(len(l))]
}

// schema draws a schema that holds together, and its rewrites.
func (d draw) schema() (parse.Schema, rewrites) {
	var s parse.Schema
	var all []parse.Sub
	for _, typ := range d.some("a", "b", "c", "d") {
		t := parse.Type{Name: typ}
		all = append(all, parse.Sub{Type: typ})
		for _, rel := range d.some("a", "b", "c", "e", "f") {
			t.Rels = append(t.Rels, parse.Rel{Name: rel, View: rel, Edit: rel, Check: rel})
			all = append(all, parse.Sub{Type: typ, Rel: rel})
		}
		s.Types = append(s.Types, t)
	}
	for _, t := range s.Types {
		for j := range t.Rels {
			for _, i := range d.Perm(len(all))[:d.Intn(min(len(all), 5))] {
				t.Rels[j].Subs = append(t.Rels[j].Subs, all[i])
			}
		}
	}
	trees := rewrites{}
	for i, t := range s.Types {
		leaves := leaves(s, t)
		for j := range t.Rels {
			tree := d.tree(leaves, 1+d.Intn(6))
			trees[place{i, j}], t.Rels[j].Ops = tree, tree.ops()
		}
	}
	return s, trees
}

// leaves are all operations that a type's relations may have, but for signs.
func leaves(s parse.Schema, t parse.Type) []parse.Op {
	l := []parse.Op{{Kind: parse.This}}
	for _, r := range t.Rels {
		l = append(l, parse.Op{Kind: parse.Same, Name: r.Name})
		for _, sub := range r.Subs {
			for _, other := range s.Types {
				for _, next := range other.Rels {
					if sub.Rel == "" && sub.Type == other.Name {
						l = append(l, parse.Op{Kind: parse.Via, Name: r.Name, Next: next.Name})
					}
				}
			}
		}
	}
	return l
}

// leads tells whether an operation of a relation of a type is told by a relation, as the document tells it.
func leads(t parse.Type, r parse.Rel, o parse.Op, to parse.Type, rel parse.Rel) bool {
	switch o.Kind {
	case parse.This:
		return slices.Contains(r.Subs, parse.Sub{Type: to.Name, Rel: rel.Name})
	case parse.Same:
		return to.Name == t.Name && rel.Name == o.Name
	}
	return rel.Name == o.Next && slices.ContainsFunc(t.Rels, func(first parse.Rel) bool {
		return first.Name == o.Name && slices.Contains(first.Subs, parse.Sub{Type: to.Name})
	})
}

// told are a schema's edges: of all that there might be, in order, those that the document tells.
func told(s parse.Schema, trees rewrites) []Edge {
	var l []Edge
	from := 0
	for i, t := range s.Types {
		for j, r := range t.Rels {
			to := 0
			for _, other := range s.Types {
				for _, rel := range other.Rels {
					plain, not := false, false
					trees[place{i, j}].leaves(false, func(o parse.Op, taken bool) {
						is := leads(t, r, o, other, rel)
						plain, not = plain || is && !taken, not || is && taken
					})
					if plain {
						l = append(l, Edge{from, to, false})
					}
					if not {
						l = append(l, Edge{from, to, true})
					}
					to++
				}
			}
			from++
		}
	}
	return l
}

// P10.1
func TestDrawnSchemasHaveTheEdgesThatTheDocumentTells(t *testing.T) {
	d := draw{rand.New(rand.NewSource(10))}
	nots := 0
	times := map[api.Errno]int{}
	for range 20000 {
		s, trees := d.schema()
		if e, at := check.Check(s); e != api.OK {
			t.Fatalf("%+v: %v %v", s, e, at)
		}
		want, got := told(s, trees), Edges(s)
		if !slices.Equal(got, want) {
			t.Fatalf("%+v: %v, want %v", s, shown(got), shown(want))
		}
		for _, e := range got {
			nots += rise(e)
		}
		n := 0
		for _, typ := range s.Types {
			n += len(typ.Rels)
		}
		times[holdLevels(t, n, got)]++
	}
	if nots < 10000 || times[api.OK] < 1000 || times[api.ErrCycle] < 1000 {
		t.Error(nots, times)
	}
}

// raised are the least levels, told by raising what is too low again and again; false: it wouldn't end.
func raised(n int, l []Edge) ([]int, bool) {
	levels := make([]int, n)
	for again := true; again; {
		again = false
		for _, e := range l {
			least := levels[e.To]
			if e.Not {
				least++
			}
			if levels[e.From] >= least {
				continue
			}
			// Of n levels that follow on each other one without any relation is left out, so that none need be n.
			if least >= n {
				return nil, false
			}
			levels[e.From], again = least, true
		}
	}
	return levels, true
}

// backAgain tells whether there is a way of edges with a Not that leads back to where it began.
func backAgain(n int, l []Edge) bool {
	reach := make([][]bool, n)
	for i := range reach {
		reach[i] = make([]bool, n)
		reach[i][i] = true
	}
	for _, e := range l {
		reach[e.From][e.To] = true
	}
	for k := range n {
		for i := range n {
			for j := range n {
				reach[i][j] = reach[i][j] || reach[i][k] && reach[k][j]
			}
		}
	}
	return slices.ContainsFunc(l, func(e Edge) bool { return e.Not && reach[e.To][e.From] })
}

// holdLevels holds Levels against the document.
func holdLevels(t *testing.T, n int, l []Edge) api.Errno {
	t.Helper()
	want, ok := raised(n, l)
	got, e := Levels(n, l)
	if ok != (e == api.OK) || !ok && e != api.ErrCycle || !slices.Equal(got, want) {
		t.Fatalf("%v, %v: %v %v, want %v %v", n, shown(l), got, e, want, ok)
	}
	if backAgain(n, l) == ok {
		t.Fatalf("%v, %v: %v", n, shown(l), e)
	}
	return e
}

// P10.2, P10.3
func TestDrawnEdgesHaveTheLevelsThatTheDocumentTells(t *testing.T) {
	d := draw{rand.New(rand.NewSource(102))}
	times := map[api.Errno]int{}
	for range 30000 {
		n := 1 + d.Intn(12)
		var l []Edge
		place := d.Perm(n)
		// Most edges lead down, so that not all goes round.
		for range d.Intn(2 * n) {
			from, to := d.Intn(n), d.Intn(n)
			if from < to && d.Intn(8) > 0 {
				from, to = to, from
			}
			l = append(l, Edge{place[from], place[to], from != to && d.Intn(3) == 0})
		}
		times[holdLevels(t, n, l)]++
	}
	if times[api.OK] < 1000 || times[api.ErrCycle] < 1000 {
		t.Error(times)
	}
}

// fits tells whether levels are such as the document asks for.
func fits(levels []int, l []Edge) bool {
	for _, e := range l {
		if levels[e.From] < levels[e.To] || e.Not && levels[e.From] == levels[e.To] {
			return false
		}
	}
	return true
}

// P10.2, P10.3: of three relations all edges that there may be, and all levels up to 3, of which a higher one is never needed.
func TestAllSmallEdgesHaveTheLeastLevels(t *testing.T) {
	const n = 3
	var all []Edge
	for from := range n {
		for to := range n {
			// One that leads to itself is drawn above.
			if from != to {
				all = append(all, Edge{from, to, false}, Edge{from, to, true})
			}
		}
	}
	times := map[api.Errno]int{}
	for set := range 1 << len(all) {
		var l []Edge
		for i, e := range all {
			if set>>i&1 == 1 {
				l = append(l, e)
			}
		}
		least := []int{9, 9, 9}
		for i := range 64 {
			if levels := []int{i & 3, i >> 2 & 3, i >> 4}; fits(levels, l) {
				for j := range levels {
					least[j] = min(least[j], levels[j])
				}
			}
		}
		if e := holdLevels(t, n, l); e == api.OK {
			if got, _ := Levels(n, l); !slices.Equal(got, least) || !fits(got, l) {
				t.Fatalf("%v: %v, want %v", shown(l), got, least)
			}
			times[e]++
		} else if least[0] != 9 {
			t.Fatalf("%v: %v, but %v", shown(l), e, least)
		}
	}
	if times[api.OK] < 100 {
		t.Error(times)
	}
}
