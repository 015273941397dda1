package check

import (
	"math/rand"
	"slices"
	"testing"

	"doorman/api"
	"doorman/parse"
)

// found is something that is wrong, and when it is told: the lesser of two is told first.
type found struct {
	when []int
	what answer
}

// faults is all that is wrong with a schema.
type faults []found

// add adds what is wrong, if it is so.
func (f *faults) add(so bool, e api.Errno, at string, when ...int) {
	if so {
		*f = append(*f, found{when, answer{e, at}})
	}
}

// first is what is told of all that is wrong.
func (f faults) first() answer {
	if len(f) == 0 {
		return answer{}
	}
	return slices.MinFunc(f, func(a, b found) int { return slices.Compare(a.when, b.when) }).what
}

// who are the relations of all types, by their names.
func who(s parse.Schema) map[string]map[string]parse.Rel {
	all := map[string]map[string]parse.Rel{}
	for _, t := range slices.Backward(s.Types) {
		all[t.Name] = map[string]parse.Rel{}
		for _, r := range slices.Backward(t.Rels) {
			all[t.Name][r.Name] = r
		}
	}
	return all
}

// wrong is what is wrong with a schema, as the document tells it.
func wrong(s parse.Schema) answer {
	var f faults
	all := who(s)
	f.add(len(s.Types) > 8, api.ErrLong, "", 0)
	types := map[string]int{}
	for i, t := range s.Types {
		types[t.Name]++
		f.add(types[t.Name] == 2, api.ErrTwice, t.Name, 1, i, -1, 0)
		f.add(len(t.Rels) > 12, api.ErrLong, t.Name, 1, i, -1, 1)
		rels := map[string]int{}
		for j, r := range t.Rels {
			rels[r.Name]++
			f.add(rels[r.Name] == 2, api.ErrTwice, t.Name+"."+r.Name, 1, i, j, 0)
			f.add(len(r.Ops) > 16, api.ErrLong, t.Name+"."+r.Name, 1, i, j, 1)
			f.names(all, t.Name, r, 2, i, j)
		}
	}
	return f.first()
}

// names adds what is wrong with what a relation names.
func (f *faults) names(all map[string]map[string]parse.Rel, typ string, r parse.Rel, when ...int) {
	own := all[typ]
	add := func(so bool, e api.Errno, more ...int) {
		f.add(so, e, typ+"."+r.Name, append(slices.Clone(when), more...)...)
	}
	has := func(rels map[string]parse.Rel, name string) bool {
		_, ok := rels[name]
		return ok
	}
	add(!has(own, r.View) || !has(own, r.Edit) || !has(own, r.Check), api.ErrName, 0)
	times := map[parse.Sub]int{}
	for i, sub := range r.Subs {
		times[sub]++
		there := all[sub.Type]
		add(there == nil || sub.Rel != "" && !has(there, sub.Rel), api.ErrName, 1, i, 0)
		add(times[sub] > 1, api.ErrTwice, 1, i, 1)
	}
	for i, o := range r.Ops {
		add(o.Kind == parse.Same && !has(own, o.Name), api.ErrName, 2, i)
		ways := 0
		for _, sub := range own[o.Name].Subs {
			if sub.Rel == "" && has(all[sub.Type], o.Next) {
				ways++
			}
		}
		add(o.Kind == parse.Via && ways == 0, api.ErrName, 2, i)
	}
}

// hold holds Check and Find against the document.
func hold(t *testing.T, s parse.Schema) answer {
	t.Helper()
	want := wrong(s)
	if got := checked(s); got != want {
		t.Fatalf("%+v: %v, want %v", s, got, want)
	}
	for typ, rels := range who(s) {
		for rel, want := range rels {
			got, ok := Find(s, typ, rel)
			// Of two types with one name only the first one counts, which who tells.
			if !ok || !sameRel(got, want) {
				t.Fatalf("%+v: %v.%v: %v %v", s, typ, rel, got, ok)
			}
		}
		if _, ok := Find(s, typ, "nobody"); ok {
			t.Fatalf("%+v: %v", s, typ)
		}
	}
	return want
}

// draw draws schemas.
type draw struct{ *rand.Rand }

// some draws so many names, or fewer, of those that there are.
func (d draw) some(most int) []string {
	l := []string{"a", "b", "c", "d", "e", "f", "g", "h", "i", "j", "k", "l", "m"}
	d.Shuffle(len(l), func(i, j int) { l[i], l[j] = l[j], l[i] })
	return l[:d.Intn(most+1)]
}

// right draws a schema that holds together.
func (d draw) right(mostTypes, mostRels int) parse.Schema {
	var s parse.Schema
	var subs []parse.Sub
	for _, typ := range d.some(mostTypes) {
		t := parse.Type{Name: typ}
		subs = append(subs, sub(typ, ""))
		for _, rel := range d.some(mostRels) {
			t.Rels = append(t.Rels, parse.Rel{Name: rel})
			subs = append(subs, sub(typ, rel))
		}
		s.Types = append(s.Types, t)
	}
	d.each(s, func(t parse.Type, r *parse.Rel) {
		one := func() string { return t.Rels[d.Intn(len(t.Rels))].Name }
		r.View, r.Edit, r.Check = one(), one(), one()
		for _, i := range d.Perm(len(subs))[:d.Intn(min(len(subs), 6)+1)] {
			r.Subs = append(r.Subs, subs[i])
		}
	})
	d.each(s, func(t parse.Type, r *parse.Rel) { r.Ops = d.ops(s, t) })
	return s
}

// each goes through all relations.
func (d draw) each(s parse.Schema, do func(t parse.Type, r *parse.Rel)) {
	for _, t := range s.Types {
		for i := range t.Rels {
			do(t, &t.Rels[i])
		}
	}
}

// ops draws operations that name what is there.
func (d draw) ops(s parse.Schema, t parse.Type) []parse.Op {
	all := []parse.Op{op(parse.This, "", ""), op(parse.Or, "", ""), op(parse.And, "", ""), op(parse.Not, "", "")}
	for _, r := range t.Rels {
		all = append(all, op(parse.Same, r.Name, ""))
		for _, sub := range r.Subs {
			for next := range who(s)[sub.Type] {
				if sub.Rel == "" {
					all = append(all, op(parse.Via, r.Name, next))
				}
			}
		}
	}
	// A map's order is no chance that can be drawn again.
	slices.SortFunc(all, func(a, b parse.Op) int {
		return slices.Compare([]string{a.Name, a.Next, string(rune(a.Kind))}, []string{b.Name, b.Next, string(rune(b.Kind))})
	})
	var l []parse.Op
	for range d.Intn(5) {
		l = append(l, all[d.Intn(len(all))])
	}
	return l
}

// spoil changes one thing of a schema, so that it may be wrong.
func (d draw) spoil(s *parse.Schema) {
	if len(s.Types) == 0 || d.Intn(12) == 0 {
		s.Types = append(s.Types, types(d.name())...)
		return
	}
	t := &s.Types[d.Intn(len(s.Types))]
	switch n := d.Intn(8); {
	case n == 0:
		t.Name = d.name()
	case n == 1:
		s.Types = slices.Insert(s.Types, d.Intn(len(s.Types)+1), *t)
	case len(t.Rels) == 0 || n == 2:
		t.Rels = append(slices.Clone(t.Rels), plain(d.name())...)
	case n == 3:
		t.Rels = t.Rels[:len(t.Rels)-1]
	case n == 4:
		t.Rels = slices.Concat(t.Rels, plain(numbered("r", 13-len(t.Rels)+d.Intn(2)-d.Intn(2))...))
	default:
		t.Rels = slices.Clone(t.Rels)
		d.spoilRel(&t.Rels[d.Intn(len(t.Rels))])
	}
}

// spoilRel changes one thing of a relation.
func (d draw) spoilRel(r *parse.Rel) {
	r.Subs, r.Ops = slices.Clone(r.Subs), slices.Clone(r.Ops)
	switch n := d.Intn(10); {
	case n == 0:
		r.Name = d.name()
	case n == 1:
		r.View = d.name()
	case n == 2:
		r.Edit = d.name()
	case n == 3:
		r.Check = d.name()
	case n == 4:
		r.Ops = slices.Repeat(append(r.Ops, op(parse.This, "", "")), 4)
	case n == 5 && len(r.Subs) > 0:
		r.Subs = append(r.Subs, r.Subs[d.Intn(len(r.Subs))])
	case n == 6:
		r.Subs = append(r.Subs, sub(d.name(), ""))
	case n == 7:
		r.Subs = slices.Insert(r.Subs, d.Intn(len(r.Subs)+1), sub(d.name(), d.name()))
	case n == 8:
		r.Ops = slices.Insert(r.Ops, d.Intn(len(r.Ops)+1), op(parse.Same, d.name(), ""))
	default:
		r.Ops = slices.Insert(r.Ops, d.Intn(len(r.Ops)+1), op(parse.Via, d.name(), d.name()))
	}
}

// name draws a name, that may be nobody's.
func (d draw) name() string { return string(rune('a' + d.Intn(14))) }

// P9.1, P9.2
func TestDrawnSchemasAreToldAsTheDocumentTells(t *testing.T) {
	d := draw{rand.New(rand.NewSource(9))}
	times := map[api.Errno]int{}
	for range 12000 {
		s := d.right(1+d.Intn(8), 1+d.Intn(5))
		if got := hold(t, s); got != (answer{}) {
			t.Fatalf("%+v: %v", s, got)
		}
		for range 1 + d.Intn(6) {
			d.spoil(&s)
			times[hold(t, s).e]++
		}
	}
	for _, e := range []api.Errno{api.OK, api.ErrLong, api.ErrName, api.ErrTwice} {
		if times[e] < 1000 {
			t.Errorf("%v: %v", e, times[e])
		}
	}
}

// smallRels are all relations a of few Subs and operations, each of which names a, b, or nobody.
func smallRels() []parse.Rel {
	names := []string{"a", "b"}
	var rows [][]parse.Sub
	for _, x := range names {
		for _, xr := range []string{"", "a", "b"} {
			rows = append(rows, []parse.Sub{sub(x, xr)}, []parse.Sub{sub(x, xr), sub("b", "")}, []parse.Sub{sub("a", ""), sub(x, xr)})
		}
	}
	all := []parse.Op{op(parse.This, "", "")}
	for _, x := range names {
		all = append(all, op(parse.Same, x, ""))
		for _, next := range names {
			all = append(all, op(parse.Via, x, next))
		}
	}
	var l []parse.Rel
	for _, see := range names {
		for _, subs := range rows {
			for _, o := range all {
				l = append(l, parse.Rel{Name: "a", View: see, Edit: "a", Check: "a", Subs: subs, Ops: []parse.Op{o}})
			}
		}
	}
	return l
}

// P9.1, P9.2
func TestAllSmallSchemasAreToldAsTheDocumentTells(t *testing.T) {
	times := map[answer]int{}
	all := smallRels()
	for _, one := range all {
		for _, other := range all {
			for _, at := range []string{"a", "b"} {
				other.Name = at
				two := []parse.Rel{one, other}
				for _, l := range [][]parse.Type{
					{{Name: "a", Rels: two}},
					{{Name: "a", Rels: two[:1]}, {Name: at, Rels: two[1:]}},
				} {
					s := parse.Schema{Types: l}
					want := wrong(s)
					if got := checked(s); got != want {
						t.Fatalf("%+v: %v, want %v", s, got, want)
					}
					times[want]++
				}
			}
		}
	}
	for _, what := range []answer{{}, {api.ErrName, "a.a"}, {api.ErrName, "a.b"}, {api.ErrTwice, "a.a"}, {api.ErrTwice, "a"}, {api.ErrName, "b.b"}} {
		if times[what] < 100 {
			t.Errorf("%v: %v", what, times[what])
		}
	}
}

// withoutLast is a schema without its last relation, and that one with its type's name; false: it has none.
func withoutLast(s parse.Schema) (parse.Schema, string, string, bool) {
	l := slices.Clone(s.Types)
	for i := range slices.Backward(l) {
		if last := len(l[i].Rels) - 1; last >= 0 {
			rel := l[i].Rels[last].Name
			l[i].Rels = l[i].Rels[:last]
			return parse.Schema{Types: l}, l[i].Name, rel, true
		}
	}
	return s, "", "", false
}

// P9.3
func TestWithoutItsLastRelation(t *testing.T) {
	d := draw{rand.New(rand.NewSource(93))}
	stays := 0
	for range 20000 {
		s := d.right(3, 3)
		less, typ, rel, ok := withoutLast(s)
		if !ok || checked(less) != (answer{}) {
			continue
		}
		stays++
		d.each(less, func(own parse.Type, r *parse.Rel) {
			inType := own.Name == typ && slices.Contains([]string{r.View, r.Edit, r.Check}, rel)
			named := inType || slices.Contains(r.Subs, sub(typ, rel))
			for _, o := range r.Ops {
				named = named || own.Name == typ && o.Name == rel
			}
			if named {
				t.Fatalf("%+v: %v names %v.%v", s, r, typ, rel)
			}
		})
	}
	if stays < 1000 {
		t.Error(stays)
	}
}
