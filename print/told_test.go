package print

import (
	"math/rand"
	"slices"
	"strings"
	"testing"

	"doorman/parse"
	"doorman/token"
)

// tree is a rewrite as it is put together: a part by itself, or two with a sign between.
type tree struct {
	op          parse.Op
	left, right *tree
}

// ops is the tree's operations as they are done.
func (t *tree) ops() []parse.Op {
	if t.left == nil {
		return []parse.Op{t.op}
	}
	return append(append(t.left.ops(), t.right.ops()...), t.op)
}

// text is the tree's text as the document tells it.
func (t *tree) text() string {
	if t.left == nil {
		return t.word()
	}
	if t.right.left == nil {
		return t.left.text() + " " + t.word() + " " + t.right.text()
	}
	return t.left.text() + " " + t.word() + " (" + t.right.text() + ")"
}

// word is what stands in a text for the tree's own operation.
func (t *tree) word() string {
	switch t.op.Kind {
	case parse.This:
		return "this"
	case parse.Same:
		return t.op.Name
	case parse.Via:
		return t.op.Name + "." + t.op.Next
	}
	return map[int]string{parse.Or: "|", parse.And: "&", parse.Not: "-"}[t.op.Kind]
}

// deep is how many parentheses within each other the tree's text has.
func (t *tree) deep() int {
	switch {
	case t.left == nil:
		return 0
	case t.right.left == nil:
		return t.left.deep()
	}
	return max(t.left.deep(), 1+t.right.deep())
}

// leaves are parts without signs.
func leaves() []*tree {
	return []*tree{
		{op: parse.Op{Kind: parse.This}},
		{op: parse.Op{Kind: parse.Same, Name: "a"}},
		{op: parse.Op{Kind: parse.Via, Name: "b", Next: "c"}},
	}
}

// trees are all trees of so many parts, of a few leaves and all signs.
func trees(parts int) []*tree {
	if parts == 1 {
		return leaves()
	}
	var l []*tree
	for n := 1; n < parts; n++ {
		for _, left := range trees(n) {
			for _, right := range trees(parts - n) {
				for _, kind := range []int{parse.Or, parse.And, parse.Not} {
					l = append(l, &tree{parse.Op{Kind: kind}, left, right})
				}
			}
		}
	}
	return l
}

// P8.1, P8.3
func TestAllShortRewritesAreAsTheDocumentTells(t *testing.T) {
	for parts := 1; parts <= 4; parts++ {
		for _, one := range trees(parts) {
			row, want := one.ops(), one.text()
			if got := Rewrite(row); got != want {
				t.Fatalf("%v: %q, want %q", row, got, want)
			}
			if got := parsed(t, head+want+tail).Types[0].Rels[0].Ops; !slices.Equal(got, row) {
				t.Fatalf("%q: %v, want %v", want, got, row)
			}
		}
	}
}

// draw draws schemas.
type draw struct{ *rand.Rand }

// of draws one of them.
func (d draw) of(l ...string) string { return l[d.Intn(len(l))] }

// name draws a name.
func (d draw) name() string {
	return d.of("a", "b", "c", "doc", "é", "types", "_", "9", "read", "own", "user", "is_", "ßßßßßßßßßßßßßßßßßßßßßßßß")
}

// tree draws a tree, whose leaves are no more than so many signs away.
func (d draw) tree(far int) *tree {
	if far == 0 || d.Intn(4) == 0 {
		return &tree{op: []parse.Op{
			{Kind: parse.This},
			{Kind: parse.Same, Name: d.name()},
			{Kind: parse.Via, Name: d.name(), Next: d.name()},
		}[d.Intn(3)]}
	}
	kinds := []int{parse.Or, parse.And, parse.Not}
	return &tree{parse.Op{Kind: kinds[d.Intn(3)]}, d.tree(far - 1), d.tree(far - 1)}
}

// loose draws a text of a tree that has no more parentheses within each other than so many; some of those need not be there.
func (d draw) loose(t *tree, room int) string {
	if room > t.deep() && d.Intn(3) == 0 {
		return "(" + d.loose(t, room-1) + ")"
	}
	if t.left == nil {
		return t.word()
	}
	right := t.right.word()
	if t.right.left != nil {
		right = "(" + d.loose(t.right, room-1) + ")"
	} else if room > 0 && d.Intn(3) == 0 {
		right = "(" + right + ")"
	}
	return d.loose(t.left, room) + t.word() + right
}

// told is a schema in three ways: what it says, its text as the document tells it, and a text that says the same.
type told struct {
	schema      parse.Schema
	text, loose string
}

// schema draws a schema.
func (d draw) schema() told {
	var out told
	for range d.Intn(4) {
		t := parse.Type{Name: d.name()}
		out.text += "type " + t.Name + " {\n"
		out.loose += "type " + t.Name + "{"
		for range d.Intn(3) {
			rel, text, loose := d.relation()
			t.Rels = append(t.Rels, rel)
			out.text += "\t" + text + "\n"
			out.loose += loose
		}
		out.text += "}\n"
		out.loose += "}"
		out.schema.Types = append(out.schema.Types, t)
	}
	return out
}

// relation draws a relation, in the three ways.
func (d draw) relation() (parse.Rel, string, string) {
	r := parse.Rel{Name: d.name(), View: d.name(), Edit: d.name(), Check: d.name()}
	text := "rel " + r.Name + " (" + r.View + ", " + r.Edit + ", " + r.Check + "):"
	between := " "
	for range d.Intn(4) {
		s := parse.Sub{Type: d.name()}
		text += between + s.Type
		if d.Intn(2) == 0 {
			s.Rel = d.name()
			text += "#" + s.Rel
		}
		between = ", "
		r.Subs = append(r.Subs, s)
	}
	rewrite := d.tree(4)
	r.Ops = rewrite.ops()
	loose := text + " is " + d.loose(rewrite, 8) + ";"
	if len(r.Ops) > 1 || rewrite.word() != "this" {
		text += " is " + rewrite.text()
	} else if d.Intn(2) == 0 {
		loose = text + ";"
	}
	return r, text + ";", loose
}

// spread draws other blanks and notes between a text's words and signs.
func (d draw) spread(t *testing.T, s string) string {
	l, _, _ := token.All(s)
	var b strings.Builder
	for i, one := range l {
		if i > 0 && l[i-1].Kind == token.Word && one.Kind == token.Word {
			b.WriteString(d.of(" ", "\t", "\n", "//\n"))
		}
		b.WriteString(d.of("", "", "", " ", "\n\t", "// (\n") + one.Text)
	}
	return b.String()
}

// P8.1, P8.2, P8.3
func TestDrawnSchemasAreShownAsTheDocumentTells(t *testing.T) {
	d := draw{rand.New(rand.NewSource(8))}
	fits := 0
	for range 4000 {
		one := d.schema()
		if got := Show(one.schema); got != one.text {
			t.Fatalf("%v: %q, want %q", one.schema, got, one.text)
		}
		if len(one.text) > 1000 || len(one.loose) > 1000 {
			continue
		}
		fits++
		holdShown(t, one.schema)
		for _, s := range []string{one.loose, d.spread(t, one.loose), d.spread(t, one.text)} {
			if len(s) > 2048 {
				continue
			}
			if got := Show(parsed(t, s)); got != one.text {
				t.Fatalf("%q: %q, want %q", s, got, one.text)
			}
		}
	}
	if fits < 3000 {
		t.Error(fits)
	}
}
