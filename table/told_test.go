package table

import (
	"fmt"
	"math/rand"
	"slices"
	"strings"
	"testing"

	"doorman/api"
	"doorman/check"
	"doorman/parse"
	"doorman/print"
	"doorman/strata"
	"doorman/token"
)

// names are all that types and relations of drawn schemas are called, and more.
func names() []string { return []string{"a", "b", "c", "d", "e", "é", "ab", "", "a.b"} }

// ids are numbers, of which so many from 0 on are relations'.
func ids(n int) []int {
	l := []int{-1 << 63, -n, -2, -1}
	for id := range n + 3 {
		l = append(l, id)
	}
	return append(l, 1<<63-1)
}

// asked is all that a table answers.
func asked(x Table) []string {
	l := []string{x.Text(), fmt.Sprint(x.Len())}
	for _, typ := range names() {
		l = append(l, fmt.Sprintf("has %q %v", typ, x.Has(typ)))
		for _, rel := range names() {
			id, ok := x.Id(typ, rel)
			l = append(l, fmt.Sprintf("id %q %q %v %v", typ, rel, id, ok))
		}
	}
	for _, id := range ids(x.Len()) {
		typ, rel := x.Path(id)
		view, edit, check := x.Metas(id)
		l = append(l, fmt.Sprintf("of %v: %q %q, %v %v %v, %v, %+v", id, typ, rel, view, edit, check, x.Level(id), x.Ops(id)))
		for _, typ := range names() {
			for _, rel := range names() {
				if x.May(id, typ, rel) {
					l = append(l, fmt.Sprintf("may %v %q %q", id, typ, rel))
				}
			}
		}
	}
	return l
}

// row is a relation, and what it is of.
type row struct {
	typ parse.Type
	rel parse.Rel
}

// rows are a schema's relations, by their numbers.
func rows(s parse.Schema) []row {
	var l []row
	for _, t := range s.Types {
		for _, r := range t.Rels {
			l = append(l, row{t, r})
		}
	}
	return l
}

// told is all that the table of a schema that is right is to answer, as the document tells it.
func told(s parse.Schema) []string {
	all := rows(s)
	number := func(typ, rel string) int {
		return slices.IndexFunc(all, func(r row) bool { return r.typ.Name == typ && r.rel.Name == rel })
	}
	levels, _ := strata.Levels(len(all), strata.Edges(s))
	l := []string{print.Show(s), fmt.Sprint(len(all))}
	for _, typ := range names() {
		is := slices.ContainsFunc(s.Types, func(t parse.Type) bool { return t.Name == typ })
		l = append(l, fmt.Sprintf("has %q %v", typ, is))
		for _, rel := range names() {
			id := number(typ, rel)
			l = append(l, fmt.Sprintf("id %q %q %v %v", typ, rel, max(id, 0), id >= 0))
		}
	}
	for _, id := range ids(len(all)) {
		if id < 0 || id >= len(all) {
			l = append(l, fmt.Sprintf("of %v: %q %q, 0 0 0, 0, []", id, "", ""))
			continue
		}
		r, typ := all[id].rel, all[id].typ.Name
		view, edit, check := number(typ, r.View), number(typ, r.Edit), number(typ, r.Check)
		var ops []Op
		for _, o := range r.Ops {
			op := Op{Kind: o.Kind}
			if o.Kind == parse.Same || o.Kind == parse.Via {
				op.Rel, op.Next = number(typ, o.Name), o.Next
			}
			ops = append(ops, op)
		}
		l = append(l, fmt.Sprintf("of %v: %q %q, %v %v %v, %v, %+v", id, typ, r.Name, view, edit, check, levels[id], ops))
		for _, typ := range names() {
			for _, rel := range names() {
				if slices.Contains(r.Subs, parse.Sub{Type: typ, Rel: rel}) {
					l = append(l, fmt.Sprintf("may %v %q %q", id, typ, rel))
				}
			}
		}
	}
	return l
}

// first is which answers aren't one, of those the first two.
func first(got, want []string) string {
	for i, w := range want {
		if i >= len(got) {
			return "nothing, want " + w
		}
		if got[i] != w {
			return got[i] + ", want " + w
		}
	}
	return fmt.Sprint(got[len(want):])
}

// draw draws schemas.
type draw struct{ *rand.Rand }

// of draws one of them.
func (d draw) of(l ...string) string { return l[d.Intn(len(l))] }

// some draws some of a few names.
func (d draw) some() []string {
	l := []string{"a", "b", "c", "d", "é", "ab"}
	d.Shuffle(len(l), func(i, j int) { l[i], l[j] = l[j], l[i] })
	return l[:d.Intn(5)]
}

// schema draws a schema that holds together.
func (d draw) schema() parse.Schema {
	var s parse.Schema
	var subs []parse.Sub
	for _, typ := range d.some() {
		t := parse.Type{Name: typ}
		subs = append(subs, parse.Sub{Type: typ})
		for _, rel := range d.some() {
			t.Rels = append(t.Rels, parse.Rel{Name: rel})
			subs = append(subs, parse.Sub{Type: typ, Rel: rel})
		}
		s.Types = append(s.Types, t)
	}
	for _, t := range s.Types {
		for i := range t.Rels {
			r := &t.Rels[i]
			own := func() string { return t.Rels[d.Intn(len(t.Rels))].Name }
			r.View, r.Edit, r.Check = own(), own(), own()
			for _, i := range d.Perm(len(subs))[:d.Intn(min(len(subs), 5))] {
				r.Subs = append(r.Subs, subs[i])
			}
		}
	}
	for _, t := range s.Types {
		parts := parts(s, t)
		for i := range t.Rels {
			t.Rels[i].Ops = d.ops(parts, 1+d.Intn(4))
		}
	}
	return s
}

// parts are all operations that a type's relations may have, but for signs.
func parts(s parse.Schema, t parse.Type) []parse.Op {
	l := []parse.Op{{Kind: parse.This}}
	for _, r := range t.Rels {
		l = append(l, parse.Op{Kind: parse.Same, Name: r.Name})
		for _, other := range rows(s) {
			if slices.Contains(r.Subs, parse.Sub{Type: other.typ.Name}) {
				l = append(l, parse.Op{Kind: parse.Via, Name: r.Name, Next: other.rel.Name})
			}
		}
	}
	return l
}

// ops draws operations of so many parts.
func (d draw) ops(parts []parse.Op, n int) []parse.Op {
	if n == 1 {
		return []parse.Op{parts[d.Intn(len(parts))]}
	}
	ahead := 1 + d.Intn(n-1)
	sign := []int{parse.Or, parse.Or, parse.Or, parse.And, parse.And, parse.Not}[d.Intn(6)]
	return append(append(d.ops(parts, ahead), d.ops(parts, n-ahead)...), parse.Op{Kind: sign})
}

// loose draws a text with the same words and signs, as long as there is room.
func (d draw) loose(s string) string {
	l, _, _ := token.All(s)
	var b strings.Builder
	room := api.MaxText - len(s)
	for i, one := range l {
		blank := d.of("", "", " ", "\n", "\t", "//\n", "// }\n")
		if room < len(blank) || blank == "" && i > 0 && l[i-1].Kind == token.Word && one.Kind == token.Word {
			blank = " "
		}
		room -= len(blank)
		b.WriteString(blank + one.Text)
	}
	return b.String()
}

// spoilt draws a text with one of its words and signs left out, put twice, or another one.
func (d draw) spoilt(s string) string {
	l, _, _ := token.All(s)
	i := d.Intn(len(l))
	switch d.Intn(6) {
	case 0:
		l = slices.Delete(l, i, i+1)
	case 1:
		l = slices.Insert(l, i, l[i])
	case 2:
		l[i].Text = d.of("-", "|", "{", "(", ";", "type", "rel", "this")
	default:
		for l[i].Kind == token.Sign {
			i = d.Intn(len(l))
		}
		l[i].Text = d.of("a", "b", "c", "d", "é", "ab", l[d.Intn(len(l))].Text)
	}
	var texts []string
	for _, one := range l {
		texts = append(texts, one.Text)
	}
	return strings.Join(texts, " ")
}

// wrong is what is wrong with a text, and what it says, as the document tells it.
func wrong(text string) (api.Errno, parse.Schema) {
	s, e, _ := parse.Parse(text)
	if e != api.OK {
		return e, s
	}
	holds, _ := check.Check(s)
	_, round := strata.Levels(len(rows(s)), strata.Edges(s))
	long := api.OK
	if len(print.Show(s)) > 2048 {
		long = api.ErrLong
	}
	for _, e := range []api.Errno{holds, round, long} {
		if e != api.OK {
			return e, parse.Schema{}
		}
	}
	return api.OK, s
}

// hold holds Compile and what its table answers against the document.
func hold(t *testing.T, text string) api.Errno {
	t.Helper()
	want, s := wrong(text)
	x, e := Compile(text)
	if e != want {
		t.Fatalf("%q: %v, want %v", text, e, want)
	}
	got, wanted := asked(x), told(s)
	if !slices.Equal(got, wanted) {
		t.Fatalf("%q: %v", text, first(got, wanted))
	}
	if e != api.OK {
		return e
	}
	again, e := Compile(x.Text())
	if e != api.OK || !slices.Equal(asked(again), got) {
		t.Fatalf("%q, again: %v, %v", x.Text(), e, first(asked(again), got))
	}
	return api.OK
}

// P11.1, P11.2, P11.3
func TestDrawnSchemasAreToldAsTheDocumentTells(t *testing.T) {
	d := draw{rand.New(rand.NewSource(11))}
	times := map[api.Errno]int{}
	levels := map[int]int{}
	for range 6000 {
		s := d.schema()
		text := print.Show(s)
		if len(text) > 2048 {
			t.Fatal(len(text))
		}
		e := hold(t, d.loose(text))
		times[e]++
		if e == api.OK {
			x := compiled(t, text)
			for id := range x.Len() {
				levels[x.Level(id)]++
			}
			// What was drawn, not only what parse says of it.
			if got, want := asked(x), told(s); !slices.Equal(got, want) {
				t.Fatalf("%q: %v", text, first(got, want))
			}
		}
		if len(text) > 0 && len(text) < 1000 {
			times[hold(t, d.spoilt(text))]++
		}
	}
	for _, e := range []api.Errno{api.OK, api.ErrSyntax, api.ErrName, api.ErrTwice, api.ErrCycle} {
		if times[e] < 50 {
			t.Error(e, times[e])
		}
	}
	if levels[0] < 1000 || levels[1] < 200 || levels[2] < 20 {
		t.Error(levels)
	}
}

// P11.3
func TestNumbersAndPathsAreOneToOne(t *testing.T) {
	d := draw{rand.New(rand.NewSource(113))}
	for range 2000 {
		x, e := Compile(print.Show(d.schema()))
		if e != api.OK {
			continue
		}
		seen := map[[2]string]int{}
		for id := range x.Len() {
			typ, rel := x.Path(id)
			seen[[2]string{typ, rel}]++
			if back, ok := x.Id(typ, rel); back != id || !ok || !x.Has(typ) {
				t.Fatalf("%q: %v: %v.%v: %v %v", x.Text(), id, typ, rel, back, ok)
			}
		}
		if len(seen) != x.Len() {
			t.Fatalf("%q: %v", x.Text(), seen)
		}
		for _, typ := range names() {
			for _, rel := range names() {
				if id, ok := x.Id(typ, rel); ok != (seen[[2]string{typ, rel}] == 1) || id >= max(x.Len(), 1) {
					t.Fatalf("%q: %v.%v: %v %v", x.Text(), typ, rel, id, ok)
				}
			}
		}
	}
}

// P11.3: of texts that come close to what may be, too.
func TestWhatIsShownIsCompiledAgain(t *testing.T) {
	deep := "a"
	for range 7 {
		deep = "b-(" + deep + ")"
	}
	for _, text := range []string{
		"", docs, ofLength(2047), ofLength(2048), ofLength(2049),
		"type t{rel a(a,a,a):is this;rel b(b,b,b):;rel c(c,c,c):is " + deep + ";}",
		"type t{rel a(a,a,a):is ((((((((a|a))))))));}",
	} {
		hold(t, text)
	}
}
