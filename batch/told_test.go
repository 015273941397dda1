package batch

import (
	"bytes"
	"math/rand"
	"slices"
	"testing"

	"doorman/api"
	"doorman/fields"
	"doorman/table"
	"doorman/tuple"
)

// told is what the document tells of a store: all revisions from 0 on, even those that aren't kept, each one whole.
type told struct {
	quota, floor int
	all          []moment
}

// moment is a revision: its schema as a text, its tuples in no order, and what was written.
type moment struct {
	text   string
	tuples []api.Tuple
	record Record
}

// newTold is that of a new store.
func newTold(quota int) *told { return &told{quota: max(quota, 0), all: make([]moment, 1)} }

// rev is the last revision; last what that is.
func (m *told) rev() int     { return len(m.all) - 1 }
func (m *told) last() moment { return m.all[m.rev()] }

// kept tells whether a revision is.
func (m *told) kept(rev int) bool { return rev >= m.floor && rev <= m.rev() }

// define is what Define does.
func (m *told) define(by api.Node, text string) api.Errno {
	t, e := table.Compile(text)
	if e != api.OK {
		return e
	}
	for _, x := range inOrder(m.last().tuples) {
		if e := tuple.Right(t, x); e != api.OK {
			return e
		}
	}
	if len(m.all)-m.floor >= api.MaxKept {
		return api.ErrQuota
	}
	m.all = append(m.all, moment{t.Text(), m.last().tuples, Record{Rev: m.rev() + 1, By: by, Schema: true}})
	return api.OK
}

// write is what Write does.
func (m *told) write(by api.Node, pres []Pre, changes []Change) (api.Errno, int) {
	if len(changes) == 0 {
		return api.ErrArg, 0
	}
	if len(pres) > 16 || len(changes) > 16 {
		return api.ErrLong, 0
	}
	t, _ := table.Compile(m.last().text)
	var both []api.Tuple
	for _, p := range pres {
		both = append(both, p.Tuple)
	}
	record := Record{Rev: m.rev() + 1, By: by}
	for _, c := range changes {
		both = append(both, c.Tuple)
		record.Keys = append(record.Keys, tuple.Key(c.Tuple))
	}
	for i, x := range both {
		if e := tuple.Right(t, x); e != api.OK {
			return e, i
		}
	}
	for i, p := range pres {
		if slices.Contains(m.last().tuples, p.Tuple) != p.Is {
			return api.ErrThere, i
		}
	}
	now := slices.Clone(m.last().tuples)
	for i, c := range changes {
		at := slices.Index(now, c.Tuple)
		switch {
		case c.Add && at >= 0:
			return api.ErrTwice, len(pres) + i
		case !c.Add && at < 0:
			return api.ErrThere, len(pres) + i
		case c.Add:
			now = append(now, c.Tuple)
		default:
			now = slices.Delete(now, at, at+1)
		}
	}
	if len(now) > m.quota || len(m.all)-m.floor >= api.MaxKept {
		return api.ErrQuota, 0
	}
	m.all = append(m.all, moment{m.last().text, now, record})
	return api.OK, 0
}

// trim is what Trim does.
func (m *told) trim(rev int) api.Errno {
	if !m.kept(rev) {
		return api.ErrArg
	}
	m.floor = rev
	return api.OK
}

// changes are those of a revision.
func (m *told) changes(rev int) []Change {
	var l []Change
	was, now := m.all[rev-1].tuples, m.all[rev].tuples
	for _, x := range inOrder(append(slices.Clone(was), now...)) {
		if slices.Contains(was, x) != slices.Contains(now, x) {
			l = append(l, Change{x, slices.Contains(now, x)})
		}
	}
	return l
}

// pack is what Pack tells.
func (m *told) pack() []byte {
	first := m.all[m.floor]
	out := fields.Put(uint64(m.floor), uint64(m.rev()))
	out = append(out, fields.Texts(first.text)...)
	var keys []string
	for _, x := range inOrder(first.tuples) {
		keys = append(keys, tuple.Key(x))
	}
	out = append(out, fields.Lists(keys)...)
	for _, x := range m.all[m.floor+1:] {
		by := x.record.By
		out = append(out, fields.Texts(by.Type, by.Id, by.Rel)...)
		if x.record.Schema {
			out = append(append(out, fields.Put(1)...), fields.Texts(x.text)...)
		} else {
			out = append(append(out, fields.Put(0)...), fields.Lists(x.record.Keys)...)
		}
	}
	return out
}

// inOrder are tuples in order.
func inOrder(l []api.Tuple) []api.Tuple {
	l = slices.Clone(l)
	slices.SortFunc(l, tuple.Compare)
	return slices.Compact(l)
}

// hold holds all that a store answers against what is told, of revisions ahead of it and behind it, too.
func (m *told) hold(t *testing.T, s *Store, pool []api.Tuple) {
	t.Helper()
	if s.Rev() != m.rev() || s.Floor() != m.floor || s.Live() != len(m.last().tuples) {
		t.Fatalf("%d, %d, %d, want %d, %d, %d", s.Rev(), s.Floor(), s.Live(), m.rev(), m.floor, len(m.last().tuples))
	}
	if !bytes.Equal(s.Pack(), m.pack()) {
		t.Fatalf("Pack is %q, want %q", s.Pack(), m.pack())
	}
	for rev := -1; rev <= m.rev()+1; rev++ {
		var now moment
		if m.kept(rev) {
			now = m.all[rev]
		}
		if s.Kept(rev) != m.kept(rev) || s.Schema(rev).Text() != now.text || !slices.Equal(s.Tuples(rev), inOrder(now.tuples)) {
			t.Fatalf("at %d: %v, %q, %v", rev, s.Kept(rev), s.Schema(rev).Text(), s.Tuples(rev))
		}
		for _, x := range pool {
			if s.Has(rev, x) != slices.Contains(now.tuples, x) {
				t.Fatalf("at %d of %v: %v", rev, x, s.Has(rev, x))
			}
		}
		m.holdRecord(t, s, rev)
	}
}

// holdRecord holds what is told of how a revision came, and that it comes of the one ahead of it (P15.6).
func (m *told) holdRecord(t *testing.T, s *Store, rev int) {
	t.Helper()
	r, known := s.Record(rev)
	if rev <= m.floor || !m.kept(rev) {
		if known || s.Changes(rev) != nil || r.Rev != 0 || r.By != (api.Node{}) || r.Schema || r.Keys != nil {
			t.Fatalf("of %d: %v, %v", rev, r, s.Changes(rev))
		}
		return
	}
	want := m.all[rev].record
	if !known || r.Rev != want.Rev || r.By != want.By || r.Schema != want.Schema || !slices.Equal(r.Keys, want.Keys) {
		t.Fatalf("Record of %d: %v, want %v", rev, r, want)
	}
	if !slices.Equal(s.Changes(rev), m.changes(rev)) {
		t.Fatalf("Changes of %d: %v, want %v", rev, s.Changes(rev), m.changes(rev))
	}
	next := s.Tuples(rev - 1)
	for _, c := range s.Changes(rev) {
		if c.Add {
			next = append(next, c.Tuple)
		} else {
			next = slices.DeleteFunc(next, func(x api.Tuple) bool { return x == c.Tuple })
		}
	}
	if !slices.Equal(inOrder(next), s.Tuples(rev)) {
		t.Fatalf("%d with its Changes isn't %d", rev-1, rev)
	}
}

// read is the store that bytes are of, told another way: they are cut, each record is written once more, and there were revisions enough for what is there at first.
func read(b []byte, quota int) (*told, bool) {
	r := fields.Open(b)
	floor, rev, text, keys := r.Num(), r.Num(), r.Text(), r.List(100000)
	if r.Err() != api.OK || rev < floor || rev-floor > 63 || floor > 1000000 {
		return nil, false
	}
	m := newTold(quota)
	if !m.start(int(floor), text, keys) {
		return nil, false
	}
	for range rev - floor {
		by := api.Node{}
		by.Type, by.Id, by.Rel = r.Text(), r.Text(), r.Text()
		var e api.Errno
		switch n := r.Num(); {
		case r.Err() != api.OK || n > 1:
			return nil, false
		case n == 1:
			e = m.define(by, r.Text())
		default:
			e, _ = m.write(by, nil, m.turns(r.List(100000)))
		}
		if e != api.OK {
			return nil, false
		}
	}
	return m, r.End() == api.OK && bytes.Equal(m.pack(), b)
}

// start makes what is told so much as a floor has; false: that many revisions don't lead there.
func (m *told) start(floor int, text string, keys []string) bool {
	var l []Change
	for i, key := range keys {
		x, ok := tuple.From(key)
		if !ok || i > 0 && keys[i-1] >= key {
			return false
		}
		l = append(l, Change{x, true})
	}
	if floor == 0 {
		return text == "" && len(l) == 0
	}
	for rev := 1; rev <= floor; rev++ {
		m.floor = m.rev() // each one is trimmed, so that there is room
		e := api.OK
		if rev == 1 || len(l) == 0 {
			e = m.define(api.Node{}, text)
		} else {
			n := min(len(l), 16)
			e, _ = m.write(api.Node{}, nil, l[:n])
			l = l[n:]
		}
		if e != api.OK {
			return false
		}
	}
	m.floor = floor
	return len(l) == 0 && m.last().text == text
}

// turns are the changes whose keys these are.
func (m *told) turns(keys []string) []Change {
	var l []Change
	now := slices.Clone(m.last().tuples)
	for _, key := range keys {
		x, _ := tuple.From(key)
		if at := slices.Index(now, x); at >= 0 {
			now = slices.Delete(now, at, at+1)
			l = append(l, Change{x, false})
		} else {
			now = append(now, x)
			l = append(l, Change{x, true})
		}
	}
	return l
}

// pool are tuples of which some are right by schema, some by bare, some nowhere.
func pool() []api.Tuple {
	var l []api.Tuple
	for _, x := range []string{
		"doc:1#own@user:a", "doc:1#own@user:b", "doc:2#own@user:a", "doc:10#own@user:a", "doc:1#read@user:a",
		"doc:1#read@group:g#member", "group:g#member@user:a", "group:g#member@group:h#member",
		"doc:1#own@group:g", "doc:1#none@user:a",
	} {
		l = append(l, of(x))
	}
	return append(l, api.Tuple{})
}

// drawn does so many drawn steps to a store, and to what is told, and holds each answer.
func drawn(t *testing.T, r *rand.Rand, s *Store, m *told, steps int) {
	t.Helper()
	pool := pool()
	draw := func() api.Tuple {
		n := 8
		if r.Intn(12) == 0 {
			n = len(pool)
		}
		return pool[r.Intn(n)]
	}
	for range steps {
		by := api.Node{Type: "user", Id: string(rune('a' + r.Intn(3)))}
		switch k := r.Intn(12); {
		case k == 0:
			rev := m.floor + r.Intn(len(m.all)-m.floor+2) - 1
			if got, want := s.Trim(rev), m.trim(rev); got != want {
				t.Fatalf("Trim of %d: %v, want %v", rev, got, want)
			}
		case k < 3:
			text := []string{schema, schema, schema, bare, swapped, "", "type"}[r.Intn(7)]
			if got, want := s.Define(by, text), m.define(by, text); got != want {
				t.Fatalf("Define of %q: %v, want %v", text, got, want)
			}
		default:
			var pres []Pre
			for range r.Intn(3) * r.Intn(2) {
				x := draw()
				pres = append(pres, Pre{x, slices.Contains(m.last().tuples, x) != (r.Intn(8) == 0)})
			}
			var changes []Change
			for range r.Intn(5) {
				x := draw()
				changes = append(changes, Change{x, slices.Contains(m.last().tuples, x) == (r.Intn(6) == 0)})
			}
			e, at := s.Write(by, pres, changes)
			if want, place := m.write(by, pres, changes); e != want || at != place {
				t.Fatalf("Write of %v, %v: %v, %d, want %v, %d", pres, changes, e, at, want, place)
			}
		}
	}
}

// P15.1 to P15.6: drawn stores answer what is told, and unpacked ones go on as they would have.
func TestDrawn(t *testing.T) {
	r := rand.New(rand.NewSource(15))
	for range 300 {
		quota := r.Intn(9) - 1
		s, m := New(quota), newTold(quota)
		for range 1 + r.Intn(8) {
			drawn(t, r, s, m, 1+r.Intn(20))
			m.hold(t, s, pool())
			u, e := Unpack(s.Pack(), quota)
			if e != api.OK {
				t.Fatalf("%q isn't unpacked: %v", s.Pack(), e)
			}
			m.hold(t, u, pool())
			if r.Intn(2) == 0 {
				s = u
			}
		}
	}
}

// spoilt is bytes with one thing other.
func spoilt(r *rand.Rand, b []byte) []byte {
	b = slices.Clone(b)
	i := r.Intn(len(b))
	switch r.Intn(4) {
	case 0:
		b[i] += byte(1 + r.Intn(2))
	case 1:
		b = slices.Delete(b, i, min(len(b), i+1+r.Intn(3)))
	case 2:
		b = slices.Insert(b, i, b[r.Intn(len(b))])
	default:
		k := r.Intn(len(b))
		b[i], b[k] = b[k], b[i]
	}
	return b
}

// P15.5: of drawn and spoilt bytes those are unpacked that some calls lead to, and no others.
func TestUnpackDrawn(t *testing.T) {
	r := rand.New(rand.NewSource(5))
	kept := 0
	for range 150 {
		quota := r.Intn(9)
		s, m := New(quota), newTold(quota)
		drawn(t, r, s, m, r.Intn(40))
		for range 60 {
			b := spoilt(r, s.Pack())
			want, is := read(b, quota)
			u, e := Unpack(b, quota)
			if is != (e == api.OK) || is != (u != nil) {
				t.Fatalf("%q: %v, want %v", b, e, is)
			}
			if is {
				want.hold(t, u, pool())
				kept++
			}
		}
	}
	if kept < 100 {
		t.Errorf("just %d of the spoilt ones are some store's", kept)
	}
}

// P15.5: all short rows of bytes.
func TestUnpackAll(t *testing.T) {
	b := make([]byte, 0, 8)
	var all func()
	all = func() {
		_, is := read(b, 1)
		if _, e := Unpack(b, 1); is != (e == api.OK) {
			t.Fatalf("%q: %v, want %v", b, e, is)
		}
		if len(b) == cap(b) {
			return
		}
		for x := range byte(3) {
			b = append(b, x)
			all()
			b = b[:len(b)-1]
		}
	}
	all()
}
