package batch

import (
	"bytes"
	"math"
	"slices"
	"strconv"
	"strings"
	"testing"

	"doorman/api"
	"doorman/fields"
	"doorman/table"
	"doorman/tuple"
)

// schema has users, groups of them and of groups, and docs, that have owners and readers; bare has docs' owners alone; swapped has groups in their place.
const (
	schema  = "type user {} type group { rel member (member, member, member): user, group#member; } type doc { rel own (own, own, own): user; rel read (read, own, read): user, group#member; }"
	bare    = "type user {} type doc { rel own (own, own, own): user; }"
	swapped = "type user {} type group {} type doc { rel own (own, own, own): group; }"
)

// root is who writes.
var root = api.Node{Type: "user", Id: "root"}

// of is a text's tuple; the empty one, if it is none's.
func of(s string) api.Tuple {
	t, _ := tuple.Parse(s)
	return t
}

// is, isnt, in and out are what is asked and changed.
func is(s string) Pre     { return Pre{of(s), true} }
func isnt(s string) Pre   { return Pre{of(s), false} }
func in(s string) Change  { return Change{of(s), true} }
func out(s string) Change { return Change{of(s), false} }

// owner is the text of a doc's tuple: one for each number.
func owner(n int) string { return "doc:" + strconv.Itoa(n) + "#own@user:a" }

// ins are changes that put in the owners of some docs.
func ins(from, to int) []Change {
	var l []Change
	for i := from; i < to; i++ {
		l = append(l, in(owner(i)))
	}
	return l
}

// defined is a store with a schema, and tuples, each written alone.
func defined(t *testing.T, quota int, text string, l ...string) *Store {
	t.Helper()
	s := New(quota)
	holdDefine(t, s, text, api.OK)
	for _, x := range l {
		holdWrite(t, s, nil, []Change{in(x)}, api.OK, 0)
	}
	return s
}

// same holds that what is refused changed nothing, and that what is done is one revision more.
func same(t *testing.T, s *Store, was []byte, rev int, e api.Errno) {
	t.Helper()
	if e != api.OK && !bytes.Equal(s.Pack(), was) {
		t.Errorf("%v, but something changed", e)
	}
	if e == api.OK && s.Rev() != rev+1 {
		t.Errorf("behind %d comes %d", rev, s.Rev())
	}
}

// holdDefine holds what Define answers.
func holdDefine(t *testing.T, s *Store, text string, want api.Errno) {
	t.Helper()
	was, rev := s.Pack(), s.Rev()
	e := s.Define(root, text)
	if e != want {
		t.Fatalf("Define of %.80q: %v, want %v", text, e, want)
	}
	same(t, s, was, rev, e)
}

// holdWrite holds what Write answers.
func holdWrite(t *testing.T, s *Store, pres []Pre, changes []Change, want api.Errno, place int) {
	t.Helper()
	was, rev := s.Pack(), s.Rev()
	e, at := s.Write(root, pres, changes)
	if e != want || at != place {
		t.Fatalf("Write of %v, %v: %v, %d, want %v, %d", pres, changes, e, at, want, place)
	}
	same(t, s, was, rev, e)
}

// holdTrim holds what Trim answers.
func holdTrim(t *testing.T, s *Store, rev int, want api.Errno) {
	t.Helper()
	was := s.Pack()
	e := s.Trim(rev)
	if e != want {
		t.Fatalf("Trim of %d: %v, want %v", rev, e, want)
	}
	if e != api.OK && !bytes.Equal(s.Pack(), was) {
		t.Errorf("Trim of %d is refused, but something changed", rev)
	}
}

// holdTuples holds a revision's tuples.
func holdTuples(t *testing.T, s *Store, rev int, want ...string) {
	t.Helper()
	if got := textsOf(s.Tuples(rev)); !slices.Equal(got, want) {
		t.Errorf("at %d: %q, want %q", rev, got, want)
	}
	for _, x := range want {
		if !s.Has(rev, of(x)) {
			t.Errorf("at %d there isn't %q", rev, x)
		}
	}
}

// textsOf are tuples as texts.
func textsOf(l []api.Tuple) []string {
	var texts []string
	for _, x := range l {
		texts = append(texts, tuple.Text(x))
	}
	return texts
}

// holdNone holds that a revision isn't kept.
func holdNone(t *testing.T, s *Store, rev int, x api.Tuple) {
	t.Helper()
	holdFirst(t, s, rev)
	if s.Kept(rev) || s.Schema(rev).Len() != 0 || s.Schema(rev).Has("user") || s.Has(rev, x) || s.Tuples(rev) != nil {
		t.Errorf("at %d there is something", rev)
	}
}

// holdFirst holds that nothing is told of how a revision came.
func holdFirst(t *testing.T, s *Store, rev int) {
	t.Helper()
	r, known := s.Record(rev)
	if known || r.Rev != 0 || r.By != (api.Node{}) || r.Schema || r.Keys != nil || s.Changes(rev) != nil {
		t.Errorf("of %d: %v, %v, %v", rev, r, known, s.Changes(rev))
	}
}

// holdRecord holds what was written at a revision.
func holdRecord(t *testing.T, s *Store, rev int, schema bool, want ...string) {
	t.Helper()
	r, known := s.Record(rev)
	var keys []string
	for _, x := range want {
		keys = append(keys, tuple.Key(of(x)))
	}
	if !known || r.Rev != rev || r.By != root || r.Schema != schema || !slices.Equal(r.Keys, keys) {
		t.Errorf("Record of %d: %v, %v", rev, r, known)
	}
}

// P15.1
func TestNew(t *testing.T) {
	for _, quota := range []int{math.MinInt, -1, 0, 1, math.MaxInt} {
		s := New(quota)
		if s.Rev() != 0 || s.Floor() != 0 || s.Live() != 0 || !s.Kept(0) {
			t.Errorf("of %d: %d, %d, %d", quota, s.Rev(), s.Floor(), s.Live())
		}
		holdFirst(t, s, 0)
		holdTuples(t, s, 0)
		if s.Schema(0).Text() != "" || s.Schema(0).Len() != 0 {
			t.Errorf("0 has the schema %q", s.Schema(0).Text())
		}
		for _, rev := range []int{math.MinInt, -1, 1, 63, math.MaxInt} {
			holdNone(t, s, rev, of(owner(1)))
		}
	}
}

// P15.1, P15.3
func TestQuota(t *testing.T) {
	for _, quota := range []int{math.MinInt, -1, 0} {
		holdWrite(t, defined(t, quota, bare), nil, ins(0, 1), api.ErrQuota, 0)
	}
	for _, quota := range []int{1, 2, 5, 15} {
		s := defined(t, quota, bare)
		holdWrite(t, s, nil, ins(0, quota+1), api.ErrQuota, 0)
		holdWrite(t, s, nil, ins(0, quota), api.OK, 0)
		holdWrite(t, s, nil, ins(quota, quota+1), api.ErrQuota, 0)
		// What comes out counts, not what was there on the way.
		holdWrite(t, s, nil, append(ins(quota, quota+1), out(owner(0))), api.OK, 0)
		holdWrite(t, s, nil, []Change{out(owner(1 % (quota + 1)))}, api.OK, 0)
		holdWrite(t, s, nil, ins(100, 101), api.OK, 0)
		if s.Live() != quota {
			t.Errorf("of %d there are %d", quota, s.Live())
		}
	}
	s := defined(t, math.MaxInt, bare)
	holdWrite(t, s, nil, ins(0, 16), api.OK, 0)
}

// P15.1
func TestRevisions(t *testing.T) {
	s := defined(t, 10, schema, "doc:1#own@user:a", "doc:1#read@group:g#member")
	holdWrite(t, s, nil, []Change{out("doc:1#own@user:a"), in("doc:0#own@user:a"), in("doc:1#own@user:b")}, api.OK, 0)
	holdDefine(t, s, schema+" type more {}", api.OK)
	if s.Rev() != 5 || s.Floor() != 0 || s.Live() != 3 {
		t.Errorf("%d, %d, %d", s.Rev(), s.Floor(), s.Live())
	}
	holdTuples(t, s, 0)
	holdTuples(t, s, 1)
	holdTuples(t, s, 2, "doc:1#own@user:a")
	holdTuples(t, s, 3, "doc:1#own@user:a", "doc:1#read@group:g#member")
	holdTuples(t, s, 4, "doc:0#own@user:a", "doc:1#own@user:b", "doc:1#read@group:g#member")
	holdTuples(t, s, 5, "doc:0#own@user:a", "doc:1#own@user:b", "doc:1#read@group:g#member")
	holdNone(t, s, 6, of("doc:0#own@user:a"))
	holdNone(t, s, -1, of("doc:0#own@user:a"))
	if s.Has(1, of("doc:1#own@user:a")) || s.Has(4, of("doc:1#own@user:a")) || s.Has(3, of("doc:0#own@user:a")) {
		t.Error("a tuple is there ahead of its beginning, or behind its end")
	}
	want := []Change{in("doc:0#own@user:a"), out("doc:1#own@user:a"), in("doc:1#own@user:b")}
	if got := s.Changes(4); !slices.Equal(got, want) {
		t.Errorf("Changes of 4: %v", got)
	}
	if s.Changes(1) != nil || s.Changes(5) != nil || !slices.Equal(s.Changes(3), []Change{in("doc:1#read@group:g#member")}) {
		t.Errorf("Changes: %v, %v, %v", s.Changes(1), s.Changes(5), s.Changes(3))
	}
	holdFirst(t, s, 0)
	holdFirst(t, s, 6)
	holdRecord(t, s, 1, true)
	holdRecord(t, s, 2, false, "doc:1#own@user:a")
	holdRecord(t, s, 4, false, "doc:1#own@user:a", "doc:0#own@user:a", "doc:1#own@user:b")
	holdRecord(t, s, 5, true)
	for rev, types := range []int{0, 3, 3, 3, 3, 4} {
		if got := strings.Count(s.Schema(rev).Text(), "type "); got != types {
			t.Errorf("the schema of %d has %d types", rev, got)
		}
	}
}

// P15.1
func TestHasOfNone(t *testing.T) {
	s := defined(t, 10, schema, "doc:1#own@user:a")
	// Names in one another's place would have the same key, if any name could have a byte 0.
	for _, x := range []api.Tuple{
		{},
		{Node: api.Node{Type: "doc", Id: "1", Rel: "own"}},
		{Node: api.Node{Type: "doc", Id: "1"}, Who: api.Node{Type: "user", Id: "a"}},
		{Node: api.Node{Type: "doc\x001", Id: "own", Rel: "user"}, Who: api.Node{Type: "a"}},
		of("doc:1#own@user:b"), of("doc:1#own@user:a#own"), of("doc:1#read@user:a"),
	} {
		if s.Has(2, x) {
			t.Errorf("there is %q", x)
		}
	}
}

// P15.1: what is answered, and what was handed in, is others' to change.
func TestNewMemory(t *testing.T) {
	s := defined(t, 10, schema)
	l := []Change{in("doc:1#own@user:a"), in("doc:2#own@user:a")}
	asked := []Pre{isnt("doc:1#own@user:a")}
	holdWrite(t, s, asked, l, api.OK, 0)
	if !slices.Equal(l, []Change{in("doc:1#own@user:a"), in("doc:2#own@user:a")}) || asked[0] != isnt("doc:1#own@user:a") {
		t.Error("what was handed in changed")
	}
	was := s.Pack()
	clear(l)
	clear(asked)
	r, _ := s.Record(2)
	clear(r.Keys)
	clear(s.Tuples(2))
	clear(s.Changes(2))
	clear(s.Pack())
	holdRecord(t, s, 2, false, "doc:1#own@user:a", "doc:2#own@user:a")
	holdTuples(t, s, 2, "doc:1#own@user:a", "doc:2#own@user:a")
	b := slices.Clone(was)
	u, e := Unpack(b, 10)
	clear(b)
	if e != api.OK || !bytes.Equal(s.Pack(), was) || !bytes.Equal(u.Pack(), was) {
		t.Error("what was answered is kept")
	}
}

// P15.2
func TestDefine(t *testing.T) {
	s := New(10)
	for text, want := range map[string]api.Errno{
		"type":                           api.ErrSyntax,
		"type a {} type a {}":            api.ErrTwice,
		"type a { rel b (c, b, b): a; }": api.ErrName,
		"type a { rel b (b, b, b): a is this - b; }": api.ErrCycle,
		strings.Repeat(" ", api.MaxText) + "a":       api.ErrLong,
		"type user {}":                               api.OK,
		"":                                           api.OK,
		"type a { rel b (b, b, b): a; }":             api.OK,
	} {
		holdDefine(t, s, text, want)
	}
	s = New(10)
	if e := s.Define(api.Node{Type: "?", Rel: "\x00"}, " type  user{ }"); e != api.OK {
		t.Fatal(e)
	}
	c, _ := table.Compile("type user {}")
	if r, known := s.Record(1); !known || r.By != (api.Node{Type: "?", Rel: "\x00"}) || !r.Schema || r.Keys != nil || s.Schema(1).Text() != c.Text() {
		t.Errorf("%v, %q", r, s.Schema(1).Text())
	}
}

// P15.2: a tuple that is there is to be right by the new schema, and the first of them tells what is wrong.
func TestDefineTuples(t *testing.T) {
	s := defined(t, 10, schema, "doc:1#own@user:a", "doc:1#read@user:a")
	holdDefine(t, s, schema, api.OK)
	holdDefine(t, s, swapped, api.ErrType) // of the first, though the second has no relation there
	holdDefine(t, s, bare, api.ErrName)
	holdDefine(t, s, "", api.ErrName)
	holdDefine(t, s, "type", api.ErrSyntax)
	holdWrite(t, s, nil, []Change{in("doc:0#read@user:a")}, api.OK, 0)
	holdDefine(t, s, swapped, api.ErrName) // now that one is the first
	holdWrite(t, s, nil, []Change{out("doc:0#read@user:a"), out("doc:1#read@user:a")}, api.OK, 0)
	holdDefine(t, s, bare, api.OK) // those that are gone may be anything
	holdTuples(t, s, s.Rev(), "doc:1#own@user:a")
	if s.Schema(s.Rev()).Len() != 1 || s.Schema(s.Rev()-1).Len() != 3 {
		t.Error("a schema isn't that of its revision")
	}
}

// full is a store without room, and with two tuples.
func full(t *testing.T) *Store {
	t.Helper()
	s := defined(t, 2, schema, "doc:1#own@user:a", "doc:1#read@user:a")
	for s.Rev() < 63 {
		holdDefine(t, s, schema, api.OK)
	}
	return s
}

// P15.2, P15.3, P15.4: the revisions that are kept are 64 at most.
func TestRoom(t *testing.T) {
	s := full(t)
	for rev := range 64 {
		if !s.Kept(rev) {
			t.Fatalf("%d isn't kept", rev)
		}
	}
	holdDefine(t, s, schema, api.ErrQuota)
	holdDefine(t, s, swapped, api.ErrType)
	holdDefine(t, s, "type", api.ErrSyntax)
	holdWrite(t, s, nil, []Change{out(owner(1))}, api.ErrQuota, 0)
	holdWrite(t, s, []Pre{is(owner(1))}, []Change{out(owner(1)), out(owner(1))}, api.ErrThere, 2)
	holdWrite(t, s, nil, []Change{out("doc:1#none@user:a")}, api.ErrName, 0)
	holdWrite(t, s, nil, nil, api.ErrArg, 0)
	holdTrim(t, s, 0, api.OK)
	holdDefine(t, s, schema, api.ErrQuota)
	holdTrim(t, s, 1, api.OK)
	holdWrite(t, s, nil, []Change{out(owner(1))}, api.OK, 0)
	holdDefine(t, s, schema, api.ErrQuota)
	holdTrim(t, s, 2, api.OK)
	holdDefine(t, s, schema, api.OK)
	if s.Rev() != 65 || s.Floor() != 2 {
		t.Errorf("%d, %d", s.Rev(), s.Floor())
	}
	if u, e := Unpack(s.Pack(), 2); e != api.OK || !bytes.Equal(u.Pack(), s.Pack()) {
		t.Error(e)
	}
}

// P15.3: the first error is told, in the order that the document names.
func TestWriteOrder(t *testing.T) {
	s := defined(t, 2, schema, "doc:1#own@user:a")
	x, y := "doc:1#own@user:a", "doc:2#own@user:a"
	name, wrong := "doc:1#none@user:a", "doc:1#own@group:a"
	for _, c := range []struct {
		pres    []Pre
		changes []Change
		want    api.Errno
		place   int
	}{
		{nil, nil, api.ErrArg, 0},
		{nil, []Change{}, api.ErrArg, 0},
		{slices.Repeat([]Pre{is(name)}, 17), nil, api.ErrArg, 0},
		{slices.Repeat([]Pre{is(name)}, 17), []Change{in(y)}, api.ErrLong, 0},
		{slices.Repeat([]Pre{is(x)}, 17), []Change{in(y)}, api.ErrLong, 0},
		{[]Pre{isnt(x)}, ins(0, 17), api.ErrLong, 0},
		{nil, slices.Repeat([]Change{in(name)}, 17), api.ErrLong, 0},
		{nil, []Change{in(name)}, api.ErrName, 0},
		{nil, []Change{in(wrong)}, api.ErrType, 0},
		{nil, []Change{out(wrong)}, api.ErrType, 0},
		{nil, []Change{{}}, api.ErrName, 0},
		{nil, []Change{in(y), in(wrong), in(name)}, api.ErrType, 1},
		{nil, []Change{in(y), in(name), in(wrong)}, api.ErrName, 1},
		{[]Pre{is(x), is(name)}, []Change{in(wrong)}, api.ErrName, 1},
		{[]Pre{is(x), isnt(wrong)}, []Change{in(name)}, api.ErrType, 1},
		{[]Pre{is(x), isnt(y)}, []Change{in(y), in(name)}, api.ErrName, 3},
		{[]Pre{isnt(x)}, []Change{in(x), in(wrong)}, api.ErrType, 2}, // ahead of what isn't so
		{[]Pre{isnt(x)}, []Change{in(x)}, api.ErrThere, 0},
		{[]Pre{is(x), is(y)}, []Change{in(x)}, api.ErrThere, 1},
		{[]Pre{is(x), isnt(y)}, []Change{in(x)}, api.ErrTwice, 2},
		{nil, []Change{in(x)}, api.ErrTwice, 0},
		{nil, []Change{out(y)}, api.ErrThere, 0},
		{nil, []Change{out(x), out(x)}, api.ErrThere, 1},
		{nil, []Change{in(y), in(y)}, api.ErrTwice, 1},
		{nil, append(ins(2, 6), out(owner(7))), api.ErrThere, 4}, // ahead of too many
		{[]Pre{is(x)}, ins(2, 4), api.ErrQuota, 0},
	} {
		holdWrite(t, s, c.pres, c.changes, c.want, c.place)
	}
	holdTuples(t, s, 2, x)
}

// P15.3
func TestWriteMost(t *testing.T) {
	s := defined(t, 40, schema)
	holdWrite(t, s, nil, ins(0, 16), api.OK, 0)
	var pres []Pre
	for i := range 16 {
		pres = append(pres, is(owner(i)))
	}
	holdWrite(t, s, pres, ins(16, 32), api.OK, 0)
	pres[15] = isnt(owner(15))
	holdWrite(t, s, pres, ins(32, 40), api.ErrThere, 15)
	holdWrite(t, s, pres[:15], append(ins(32, 40), in(owner(3))), api.ErrTwice, 23)
	if s.Live() != 32 || s.Rev() != 3 {
		t.Errorf("%d at %d", s.Live(), s.Rev())
	}
}

// P15.3: a key may be turned again and again; what is told of it is what was written, and what came of it.
func TestWriteTurned(t *testing.T) {
	x, y := owner(1), owner(2)
	s := defined(t, 1, schema, x)
	holdWrite(t, s, []Pre{is(x), is(x)}, []Change{out(x), in(x)}, api.OK, 0)
	holdWrite(t, s, nil, []Change{in(y), out(y)}, api.OK, 0) // though they are two on the way
	holdWrite(t, s, nil, []Change{out(x), in(x), out(x), in(y)}, api.OK, 0)
	holdRecord(t, s, 3, false, x, x)
	holdRecord(t, s, 4, false, y, y)
	holdRecord(t, s, 5, false, x, x, x, y)
	if s.Changes(3) != nil || s.Changes(4) != nil || !slices.Equal(s.Changes(5), []Change{out(x), in(y)}) {
		t.Errorf("%v, %v, %v", s.Changes(3), s.Changes(4), s.Changes(5))
	}
	holdTuples(t, s, 3, x)
	holdTuples(t, s, 4, x)
	holdTuples(t, s, 5, y)
	holdTrim(t, s, 3, api.OK)
	u, e := Unpack(s.Pack(), 1)
	if e != api.OK || !slices.Equal(u.Changes(5), s.Changes(5)) || u.Changes(4) != nil {
		t.Error(e)
	}
	holdTuples(t, u, 5, y)
}

// P15.3: pres are held against what was there, not against what changes make of it; the order of tuples is none of the changes.
func TestWriteAtOnce(t *testing.T) {
	s := defined(t, 10, schema)
	holdWrite(t, s, []Pre{isnt(owner(2)), isnt(owner(1))}, []Change{in(owner(2)), in(owner(10)), in(owner(1))}, api.OK, 0)
	holdTuples(t, s, 2, owner(1), owner(10), owner(2))
	holdRecord(t, s, 2, false, owner(2), owner(10), owner(1))
	if got := s.Changes(2); !slices.Equal(got, []Change{in(owner(1)), in(owner(10)), in(owner(2))}) {
		t.Errorf("%v", got)
	}
}

// P15.4
func TestTrim(t *testing.T) {
	s := defined(t, 10, schema, owner(1), owner(2))
	holdWrite(t, s, nil, []Change{out(owner(1))}, api.OK, 0)
	holdDefine(t, s, bare, api.OK)
	for _, rev := range []int{math.MinInt, -1, 6, 7, math.MaxInt} {
		holdTrim(t, s, rev, api.ErrArg)
	}
	for floor := range 6 {
		holdTrim(t, s, floor, api.OK)
		holdTrim(t, s, floor-1, api.ErrArg)
		holdTrim(t, s, floor, api.OK)
		if s.Floor() != floor || s.Rev() != 5 || s.Live() != 1 {
			t.Fatalf("%d, %d, %d", s.Floor(), s.Rev(), s.Live())
		}
		holdNone(t, s, floor-1, of(owner(1)))
		holdFirst(t, s, floor)
		for rev := max(floor, 2); rev <= 5; rev++ {
			want := []int{3, 3, 3, 1}[rev-2]
			if s.Schema(rev).Len() != want {
				t.Errorf("the schema of %d has %d relations", rev, s.Schema(rev).Len())
			}
			holdTuples(t, s, rev, [][]string{{owner(1)}, {owner(1), owner(2)}, {owner(2)}, {owner(2)}}[rev-2]...)
		}
		if floor < 4 && !slices.Equal(s.Changes(4), []Change{out(owner(1))}) {
			t.Errorf("Changes of 4: %v", s.Changes(4))
		}
	}
	holdRecordsBehind(t, s)
}

// holdRecordsBehind holds that revisions go on behind a floor that is the last one.
func holdRecordsBehind(t *testing.T, s *Store) {
	t.Helper()
	rev := s.Rev()
	holdWrite(t, s, nil, []Change{in(owner(1))}, api.OK, 0)
	holdTuples(t, s, rev, owner(2))
	holdTuples(t, s, rev+1, owner(1), owner(2))
	holdRecord(t, s, rev+1, false, owner(1))
	holdFirst(t, s, rev)
}

// P15.1 to P15.5
func TestNil(t *testing.T) {
	var s *Store
	holdNone(t, s, 0, of(owner(1)))
	holdNone(t, s, 1, of(owner(1)))
	if s.Rev() != 0 || s.Floor() != 0 || s.Live() != 0 || s.Pack() != nil {
		t.Error("nil has something")
	}
	if e := s.Define(root, "type"); e != api.ErrArg {
		t.Error(e)
	}
	if e, at := s.Write(root, make([]Pre, 17), ins(0, 17)); e != api.ErrArg || at != 0 {
		t.Error(e, at)
	}
	if s.Trim(0) != api.ErrArg {
		t.Error("nil is trimmed")
	}
}

// Rule 1: a store that New didn't make doesn't panic.
func TestZero(t *testing.T) {
	s := &Store{}
	holdNone(t, s, 1, of(owner(1)))
	holdTuples(t, s, 0)
	holdDefine(t, s, bare, api.OK)
	holdWrite(t, s, nil, ins(0, 1), api.ErrQuota, 0)
	holdTrim(t, s, 1, api.OK)
	if s.Live() != 0 {
		t.Error(s.Live())
	}
}

// P15.5
func TestPack(t *testing.T) {
	if got := New(3).Pack(); !bytes.Equal(got, []byte{0, 0, 0, 0}) {
		t.Errorf("%v", got)
	}
	s := New(3)
	s.Define(api.Node{Type: "a", Id: "b", Rel: "c"}, " type user{}type doc{rel own(own,own,own):user;}")
	c, _ := table.Compile(bare)
	text := c.Text()
	text = "\x01" + string(rune(len(text))) + text
	one := "\x01\x11doc\x001\x00own\x00user\x00a\x00"
	two := "\x01\x11doc\x002\x00own\x00user\x00a\x00"
	first := "\x01\x01a\x01\x01b\x01\x01c" + "\x01\x01" + text
	holdPack(t, s, "\x00"+"\x01\x01"+"\x00"+"\x00"+first)
	s.Write(api.Node{Id: "b"}, []Pre{isnt(owner(2))}, ins(1, 3))
	second := "\x00\x01\x01b\x00" + "\x00" + "\x01\x02" + one + two
	holdPack(t, s, "\x00"+"\x01\x02"+"\x00"+"\x00"+first+second)
	s.Write(api.Node{}, nil, []Change{out(owner(2)), in(owner(3)), out(owner(3))})
	third := "\x00\x00\x00" + "\x00" + "\x01\x03" + two + strings.Repeat("\x01\x11doc\x003\x00own\x00user\x00a\x00", 2)
	holdPack(t, s, "\x00"+"\x01\x03"+"\x00"+"\x00"+first+second+third)
	s.Trim(2)
	holdPack(t, s, "\x01\x02"+"\x01\x03"+text+"\x01\x02"+one+two+third)
	s.Trim(3)
	holdPack(t, s, "\x01\x03"+"\x01\x03"+text+"\x01\x01"+one)
}

// holdPack holds Pack, and that it is unpacked.
func holdPack(t *testing.T, s *Store, want string) {
	t.Helper()
	if got := string(s.Pack()); got != want {
		t.Fatalf("%q, want %q", got, want)
	}
	u, e := Unpack([]byte(want), 3)
	if e != api.OK || string(u.Pack()) != want {
		t.Errorf("%q: %v", want, e)
	}
}

// packing is what bytes of a store are made of, right or wrong.
type packing struct {
	floor, rev uint64
	text       string
	keys       []string
	behind     string
}

// bytes are those of what it is made of.
func (p packing) bytes() []byte {
	out := slices.Concat(fields.Put(p.floor, p.rev), fields.Texts(p.text), fields.Lists(p.keys))
	return append(out, p.behind...)
}

// defines and writes are records' bytes.
func defines(text string) string {
	return string(slices.Concat(fields.Texts("user", "root", ""), fields.Put(1), fields.Texts(text)))
}

func writes(l ...string) string {
	return string(slices.Concat(fields.Texts("user", "root", ""), fields.Put(0), fields.Lists(l)))
}

// keysIn are the keys of some docs' owners, rising.
func keysIn(n int) []string {
	var l []string
	for i := range n {
		l = append(l, tuple.Key(of(owner(i))))
	}
	slices.Sort(l)
	return l
}

// holdUnpack holds whether a store is unpacked.
func holdUnpack(t *testing.T, b []byte, quota int, ok bool) {
	t.Helper()
	s, e := Unpack(b, quota)
	switch {
	case ok && (e != api.OK || s == nil || !bytes.Equal(s.Pack(), b)):
		t.Errorf("%.80q isn't unpacked: %v", b, e)
	case !ok && (s != nil || !slices.Contains([]api.Errno{api.ErrShort, api.ErrForm, api.ErrLeft, api.ErrLong}, e)):
		t.Errorf("%.80q is unpacked: %v", b, e)
	}
}

// P15.5: bytes that might be a store's, and those that are none's.
func TestUnpack(t *testing.T) {
	c, _ := table.Compile(bare)
	text := c.Text()
	k := keysIn(20)
	other := tuple.Key(of("doc:1#own@user:b"))
	for _, x := range []struct {
		p     packing
		quota int
		ok    bool
	}{
		{packing{}, 0, true},
		{packing{}, -1, true},
		{packing{behind: "\x00"}, 0, false},
		{packing{rev: 1, behind: defines(text)}, 0, true},
		{packing{rev: 1}, 0, false},
		{packing{behind: defines(text)}, 0, false},
		{packing{rev: 1, behind: defines(bare)}, 0, bare == text},
		{packing{rev: 1, behind: defines(" ")}, 0, false}, // that is the empty schema, but not as that is shown
		{packing{rev: 1, behind: defines("")}, 0, true},
		{packing{rev: 1, behind: defines("type")}, 0, false},
		{packing{text: text}, 0, false}, // nothing is there at 0
		{packing{text: " "}, 0, false},
		{packing{keys: k[:1]}, 9, false},
		{packing{floor: 1, rev: 1, text: text}, 0, true},
		{packing{floor: 1, rev: 1, text: " " + text}, 0, false},
		{packing{floor: 1, rev: 1, text: "type"}, 0, false},
		{packing{floor: 1, rev: 1}, 0, true},
		{packing{floor: 1, rev: 0, text: text}, 0, false},
		{packing{floor: 1, rev: 1, text: text, keys: k[:1]}, 9, false}, // the first one writes a schema, and nothing else
		{packing{floor: 2, rev: 2, text: text, keys: k[:1]}, 1, true},
		{packing{floor: 2, rev: 2, text: text, keys: k[:1]}, 0, false},
		{packing{floor: 2, rev: 2, keys: k[:1]}, 1, false},
		{packing{floor: 2, rev: 2, text: text, keys: k[:16]}, 16, true},
		{packing{floor: 2, rev: 2, text: text, keys: k[:16]}, 15, false},
		{packing{floor: 2, rev: 2, text: text, keys: k[:17]}, 99, false}, // one wrote at most 16
		{packing{floor: 3, rev: 3, text: text, keys: k[:17]}, 99, true},
		{packing{floor: 2, rev: 2, text: text, keys: []string{k[1], k[0]}}, 99, false},
		{packing{floor: 2, rev: 2, text: text, keys: []string{k[0], k[0]}}, 99, false},
		{packing{floor: 2, rev: 2, text: text, keys: []string{"a"}}, 99, false},
		{packing{floor: 2, rev: 2, text: text, keys: []string{tuple.Key(of("doc:1#read@user:a"))}}, 99, false},
		{packing{floor: 2, rev: 2, text: text, keys: []string{tuple.Key(of("doc:1#own@doc:a"))}}, 99, false},
		{packing{floor: 2, rev: 3, text: text, keys: k[:1], behind: writes(k[0])}, 1, true},
		{packing{floor: 2, rev: 3, text: text, keys: k[:1], behind: writes(k[0], k[0])}, 1, true},
		{packing{floor: 2, rev: 3, text: text, keys: k[:1], behind: writes(k[1], k[0], k[1], k[0], k[1])}, 2, true},
		{packing{floor: 2, rev: 3, text: text, keys: k[:1], behind: writes(k[1], k[0], k[1], k[0], k[1], k[0], k[1], k[0])}, 1, true},
		{packing{floor: 2, rev: 3, text: text, keys: k[:1], behind: writes(k[1])}, 2, true},
		{packing{floor: 2, rev: 3, text: text, keys: k[:1], behind: writes(k[1])}, 1, false},
		{packing{floor: 2, rev: 3, text: text, keys: k[:1], behind: writes()}, 1, false},
		{packing{floor: 2, rev: 3, text: text, keys: k[:1], behind: writes(k[1:17]...)}, 99, true},
		{packing{floor: 2, rev: 3, text: text, keys: k[:1], behind: writes(k[1:18]...)}, 99, false},
		{packing{floor: 2, rev: 3, text: text, keys: k[:1], behind: writes(other)}, 99, true},
		{packing{floor: 2, rev: 3, text: text, keys: k[:1], behind: writes("a")}, 99, false},
		{packing{floor: 2, rev: 3, text: text, keys: k[:1], behind: defines("")}, 99, false}, // by which no tuple is right
		{packing{floor: 2, rev: 4, text: text, keys: k[:1], behind: writes(k[0]) + defines("")}, 99, true},
		{packing{floor: 2, rev: 3, text: text, keys: k[:1], behind: writes(k[0]) + defines("")}, 99, false},
		{packing{floor: 1, rev: 64, text: text, behind: strings.Repeat(defines(text), 63)}, 0, true},
		{packing{floor: 1, rev: 65, text: text, behind: strings.Repeat(defines(text), 64)}, 0, false},
		{packing{floor: 300, rev: 300, text: text}, 0, true},
		{packing{floor: 1 << 63, rev: 1 << 63, text: text}, 0, false},
		{packing{floor: 0, rev: math.MaxUint64, text: text}, 0, false},
		{packing{floor: math.MaxUint64, rev: math.MaxUint64, text: text}, 0, false},
		{packing{floor: math.MaxUint64, rev: 0, text: text}, 0, false},
	} {
		holdUnpack(t, x.p.bytes(), x.quota, x.ok)
	}
	holdUnpack(t, nil, 1, false)
}

// P15.5: one has 1 or 0, nothing else, for a schema, and nothing is cut off, or behind.
func TestUnpackSpoilt(t *testing.T) {
	s := defined(t, 3, bare, owner(1), owner(2))
	b := s.Pack()
	for i := range b {
		holdUnpack(t, b[:i], 3, false)
	}
	holdUnpack(t, append(slices.Clone(b), 0), 3, false)
	holdUnpack(t, b, 2, true)
	holdUnpack(t, b, 1, false)
	p := packing{floor: 1, rev: 2, text: s.Schema(1).Text()}
	schemaOf := func(n uint64) string {
		return string(slices.Concat(fields.Texts("", "", ""), fields.Put(n), fields.Texts("")))
	}
	for n, ok := range []bool{false, true, false, false} {
		p.behind = schemaOf(uint64(n))
		holdUnpack(t, p.bytes(), 3, ok)
	}
	p.behind = schemaOf(1 << 32)
	holdUnpack(t, p.bytes(), 3, false)
}

// P15.5: lists have 100000 texts at most.
func TestUnpackMost(t *testing.T) {
	c, _ := table.Compile(bare)
	for _, n := range []int{100000, 100001} {
		p := packing{floor: 10000, rev: 10000, text: c.Text(), keys: keysIn(n)}
		holdUnpack(t, p.bytes(), math.MaxInt, n == 100000)
	}
	p := packing{rev: 1, behind: string(fields.Texts("", "", "")) + "\x00\x03\x01\x86\xa1"}
	holdUnpack(t, p.bytes(), 9, false)
}

// Rule 5: long stores end.
func TestLong(t *testing.T) {
	s := defined(t, math.MaxInt, bare)
	for i := range 200 {
		holdTrim(t, s, s.Rev(), api.OK)
		if e, _ := s.Write(root, nil, ins(16*i, 16*i+16)); e != api.OK {
			t.Fatal(e)
		}
	}
	if s.Live() != 3200 || len(s.Tuples(s.Rev())) != 3200 || len(s.Tuples(s.Floor())) != 3184 {
		t.Error(s.Live())
	}
	if !slices.IsSortedFunc(s.Tuples(s.Rev()), tuple.Compare) {
		t.Error("they aren't in order")
	}
}
