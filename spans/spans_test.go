package spans

import (
	"math"
	"slices"
	"strconv"
	"strings"
	"testing"
)

// step is a call of Put (Add), or of Drop, and what it is to answer.
type step struct {
	Event
	want bool
}

// put and drop are steps that are to be done; noPut and noDrop such as may not be.
func put(key string, rev int) step    { return step{Event{rev, key, true}, true} }
func drop(key string, rev int) step   { return step{Event{rev, key, false}, true} }
func noPut(key string, rev int) step  { return step{Event{rev, key, true}, false} }
func noDrop(key string, rev int) step { return step{Event{rev, key, false}, false} }

// begins and ends are events.
func begins(rev int, key string) Event { return Event{rev, key, true} }
func ends(rev int, key string) Event   { return Event{rev, key, false} }

// do does a step, and tells what that answered.
func do(s *Spans, e Event) bool {
	if e.Add {
		return s.Put(e.Key, e.Rev)
	}
	return s.Drop(e.Key, e.Rev)
}

// done is spans behind steps, each of which is held against what it is to answer.
func done(t *testing.T, l ...step) *Spans {
	t.Helper()
	s := New()
	for i, x := range l {
		if got := do(s, x.Event); got != x.want {
			t.Fatalf("step %d, %v: %v", i, x.Event, got)
		}
	}
	return s
}

// at are the keys of a revision, as Next tells them one by one, and as many as Count tells.
func at(t *testing.T, s *Spans, rev int) []string {
	t.Helper()
	var l []string
	for key, is := s.Next(rev, "", ""); is; key, is = s.Next(rev, key+"\x00", "") {
		if len(l) > 0 && key <= l[len(l)-1] {
			t.Fatalf("at %d %q comes behind %q", rev, key, l)
		}
		l = append(l, key)
		if !s.Has(key, rev) {
			t.Errorf("at %d Next tells %q, Has doesn't", rev, key)
		}
	}
	if n := s.Count(rev); n != len(l) {
		t.Errorf("at %d there are %q, but their Count is %d", rev, l, n)
	}
	return l
}

// holdAt holds the keys of a revision.
func holdAt(t *testing.T, s *Spans, rev int, want ...string) {
	t.Helper()
	if got := at(t, s, rev); !slices.Equal(got, want) {
		t.Errorf("at %d: %q, want %q", rev, got, want)
	}
}

// holdEvents holds Events.
func holdEvents(t *testing.T, s *Spans, from, to int, want ...Event) {
	t.Helper()
	if got := s.Events(from, to); !slices.Equal(got, want) {
		t.Errorf("behind %d, up to %d: %v, want %v", from, to, got, want)
	}
}

// P14.1
func TestNew(t *testing.T) {
	s := New()
	for _, rev := range []int{math.MinInt, -1, 0, 1, math.MaxInt} {
		holdAt(t, s, rev)
		if s.Has("", rev) || s.Trim(rev) != 0 {
			t.Error(rev)
		}
	}
	holdEvents(t, s, math.MinInt, math.MaxInt)
	if !s.Put("a", 1) || New().Has("a", 1) {
		t.Error("new ones are not apart")
	}
}

// P14.1
func TestPut(t *testing.T) {
	s := done(t,
		noPut("a", math.MinInt), noPut("a", -1), noPut("a", 0),
		put("a", 1), noPut("a", 1), noPut("a", 2), // it didn't end
		put("b", 1),              // another one at the same revision
		put("", 3), noPut("", 3), // any text is a key
		noPut("c", 2), noPut("c", 1), noPut("c", 0), put("c", 3), // below the last revision
		put("A", 3), put("aa", 3), put("a\x00", 3), // others that are alike
		put("\xff", math.MaxInt), noPut("d", math.MaxInt-1), noPut("d", 4), put("d", math.MaxInt),
	)
	holdAt(t, s, 0)
	holdAt(t, s, 1, "a", "b")
	holdAt(t, s, 2, "a", "b")
	holdAt(t, s, 3, "", "A", "a", "a\x00", "aa", "b", "c")
	holdAt(t, s, math.MaxInt-1, "", "A", "a", "a\x00", "aa", "b", "c")
	holdAt(t, s, math.MaxInt, "", "A", "a", "a\x00", "aa", "b", "c", "d", "\xff")
}

// P14.1
func TestDrop(t *testing.T) {
	s := done(t,
		noDrop("a", 1), noDrop("", 0), noDrop("", -1), noDrop("a", math.MaxInt), // there is none
		put("a", 2), put("b", 2),
		noDrop("a", 2),                                                            // it begins there
		noDrop("a", 1), noDrop("a", 0), noDrop("a", -1), noDrop("a", math.MinInt), // or later
		noDrop("c", 3), noDrop("A", 3), noDrop("", 3), noDrop("aa", 3),
		drop("a", 3), noDrop("a", 3), noDrop("a", 4), // it ended
		noDrop("b", 2), drop("b", 5), // below the last revision
		put("a", 7), noDrop("a", 7), drop("a", math.MaxInt), noDrop("a", math.MaxInt),
	)
	holdAt(t, s, 1)
	holdAt(t, s, 2, "a", "b")
	holdAt(t, s, 3, "b")
	holdAt(t, s, 4, "b")
	holdAt(t, s, 5)
	holdAt(t, s, 7, "a")
	holdAt(t, s, math.MaxInt-1, "a")
	holdAt(t, s, math.MaxInt)
}

// P14.1: a drop counts for the last revision, too, and what may not be doesn't.
func TestLastRevision(t *testing.T) {
	s := done(t, put("a", 1), drop("a", 5), noPut("b", 4), noPut("a", 4), put("b", 5))
	holdAt(t, s, 5, "b")
	s = done(t, put("a", 2), noPut("a", 9), noDrop("a", 2), noDrop("b", 9), noPut("b", 1), put("b", 3), noDrop("b", 3), drop("a", 4))
	holdAt(t, s, 3, "a", "b")
	holdAt(t, s, 4, "b")
	s = done(t, put("a", 1), put("b", 6), noDrop("a", 5), drop("a", 6))
	holdAt(t, s, 5, "a")
	holdAt(t, s, 6, "b")
}

// P14.1: what may not be leaves all as it was.
func TestWhatMayNotBeIsNothing(t *testing.T) {
	s := done(t, put("a", 2), put("b", 2), drop("b", 4), put("b", 4))
	want := s.Events(math.MinInt, math.MaxInt)
	for _, e := range []Event{
		begins(4, "a"), begins(9, "a"), begins(3, "c"), begins(1, "c"), begins(0, "c"), begins(-1, "c"),
		ends(4, "b"), ends(3, "a"), ends(2, "a"), ends(0, "a"), ends(-1, "a"), ends(9, "c"), ends(9, ""),
	} {
		if do(s, e) {
			t.Errorf("%v may be", e)
		}
		holdEvents(t, s, math.MinInt, math.MaxInt, want...)
		holdAt(t, s, 3, "a", "b")
		holdAt(t, s, 9, "a", "b")
	}
	if !s.Put("c", 4) || !s.Drop("a", 4) {
		t.Error("the last revision isn't as it was")
	}
}

// P14.1, P14.2: a key's spans stand behind each other, without a gap where it is put in again at once.
func TestSeveralSpans(t *testing.T) {
	s := done(t,
		put("a", 1), drop("a", 3), put("a", 3), noPut("a", 3), noDrop("a", 3),
		drop("a", 4), put("a", 4), drop("a", 6), put("a", 8),
	)
	for rev, want := range []bool{false, true, true, true, true, true, false, false, true, true} {
		if s.Has("a", rev) != want {
			t.Errorf("at %d: %v", rev, !want)
		}
		if want {
			holdAt(t, s, rev, "a")
		} else {
			holdAt(t, s, rev)
		}
	}
	holdEvents(t, s, 0, 9, begins(1, "a"), ends(3, "a"), begins(3, "a"), ends(4, "a"), begins(4, "a"), ends(6, "a"), begins(8, "a"))
}

// P14.2
func TestHas(t *testing.T) {
	s := done(t, put("a", 1), put("b", 2), drop("a", 3), put("", 4))
	for _, c := range []struct {
		key  string
		rev  int
		want bool
	}{
		{"a", math.MinInt, false}, {"a", -1, false}, {"a", 0, false}, {"a", 1, true}, {"a", 2, true}, {"a", 3, false}, {"a", 4, false}, {"a", math.MaxInt, false},
		{"b", 1, false}, {"b", 2, true}, {"b", 3, true}, {"b", math.MaxInt, true},
		{"", 3, false}, {"", 4, true},
		{"A", 1, false}, {"aa", 1, false}, {"a\x00", 1, false}, {"c", 4, false},
	} {
		if got := s.Has(c.key, c.rev); got != c.want {
			t.Errorf("%q at %d: %v", c.key, c.rev, got)
		}
	}
}

// P14.2
func TestNext(t *testing.T) {
	s := done(t, put("", 1), put("a", 1), put("ab", 1), put("b", 1), put("z", 2), put("\xff", 2), drop("ab", 3), put("é", 3))
	for _, c := range []struct {
		rev      int
		from, to string
		want     string
		is       bool
	}{
		{1, "", "", "", true},
		{0, "", "", "", false},
		{-1, "", "", "", false},
		{1, "\x00", "", "a", true},
		{1, "a", "", "a", true}, // from itself
		{1, "a\x00", "", "ab", true},
		{3, "a\x00", "", "b", true}, // it ended
		{1, "a", "a", "", false},    // to itself isn't
		{1, "a", "a\x00", "a", true},
		{1, "", "a", "", true}, // the empty key
		{1, "\x00", "a", "", false},
		{1, "\x00", "b", "a", true},
		{1, "ac", "b", "", false},
		{1, "ac", "b\x00", "b", true},
		{1, "b", "a", "", false}, // to below from
		{1, "c", "", "", false},
		{2, "c", "", "z", true},
		{2, "c", "z", "", false},
		{2, "z\x00", "", "\xff", true}, // é is there later
		{3, "z\x00", "", "é", true},
		{3, "é", "\xff", "é", true},
		{3, "é\x00", "\xff", "", false},
		{3, "\xff", "", "\xff", true},
		{3, "\xff\x00", "", "", false},
		{math.MaxInt, "aa", "", "b", true},
		{math.MinInt, "", "", "", false},
	} {
		if got, is := s.Next(c.rev, c.from, c.to); got != c.want || is != c.is {
			t.Errorf("at %d from %q to %q: %q %v, want %q %v", c.rev, c.from, c.to, got, is, c.want, c.is)
		}
	}
}

// P14.2
func TestCount(t *testing.T) {
	s := done(t, put("a", 1), put("b", 1), put("c", 3), drop("a", 3), put("a", 3), drop("b", 4), drop("a", 5), drop("c", 5))
	for rev, want := range []int{0, 2, 2, 3, 2, 0, 0} {
		if n := s.Count(rev); n != want {
			t.Errorf("at %d: %d, want %d", rev, n, want)
		}
	}
	if s.Count(math.MinInt) != 0 || s.Count(-1) != 0 || s.Count(math.MaxInt) != 0 {
		t.Error("far away")
	}
}

// P14.3
func TestEvents(t *testing.T) {
	s := done(t, put("b", 1), put("a", 1), put("c", 2), drop("b", 3), put("b", 3), put("d", 3), drop("a", 3), drop("c", 5))
	all := []Event{
		begins(1, "a"), begins(1, "b"),
		begins(2, "c"),
		ends(3, "a"), ends(3, "b"), begins(3, "b"), begins(3, "d"),
		ends(5, "c"),
	}
	holdEvents(t, s, 0, 5, all...)
	holdEvents(t, s, math.MinInt, math.MaxInt, all...)
	holdEvents(t, s, -1, 6, all...)
	holdEvents(t, s, 1, 5, all[2:]...)
	holdEvents(t, s, 0, 4, all[:7]...)
	holdEvents(t, s, 0, 3, all[:7]...)
	holdEvents(t, s, 0, 2, all[:3]...)
	holdEvents(t, s, 2, 3, all[3:7]...)
	holdEvents(t, s, 1, 2, all[2])
	holdEvents(t, s, 4, 5, all[7])
	holdEvents(t, s, 3, 4)
	holdEvents(t, s, 5, math.MaxInt)
	holdEvents(t, s, math.MinInt, 0)
	for rev := range 7 {
		holdEvents(t, s, rev, rev) // from itself isn't
		holdEvents(t, s, rev+1, rev)
	}
	holdEvents(t, s, math.MaxInt, math.MinInt)
}

// P14.3: by Rev, then by Key; of one key that ends and begins the end first. How they came plays no part.
func TestEventsAreInOrder(t *testing.T) {
	s := done(t,
		put("z", 1), put("m", 1), put("a", 1), put("é", 1),
		drop("m", 2), put("\xff", 2), drop("z", 2), put("z", 2), put("", 2), drop("a", 2), put("B", 2), put("a", 2), drop("é", 2),
	)
	holdEvents(t, s, 0, 1, begins(1, "a"), begins(1, "m"), begins(1, "z"), begins(1, "é"))
	holdEvents(t, s, 1, 2,
		begins(2, ""), begins(2, "B"), ends(2, "a"), begins(2, "a"), ends(2, "m"),
		ends(2, "z"), begins(2, "z"), ends(2, "é"), begins(2, "\xff"),
	)
}

// P14.3
func TestEventsAreNewMemory(t *testing.T) {
	s := done(t, put("a", 1), put("b", 2), drop("a", 3))
	l := s.Events(0, 3)
	clear(l[:cap(l)])
	holdEvents(t, s, 0, 3, begins(1, "a"), begins(2, "b"), ends(3, "a"))
	holdAt(t, s, 2, "a", "b")
}

// P14.4
func TestTrim(t *testing.T) {
	steps := []step{
		put("a", 1), put("b", 1), put("c", 1), put("e", 1),
		drop("a", 2), put("a", 2), drop("b", 3), drop("a", 4), put("a", 6), drop("c", 6),
	}
	for _, c := range []struct{ rev, want int }{
		{math.MinInt, 0}, {-1, 0}, {0, 0}, {1, 0}, {2, 1}, {3, 2}, {4, 3}, {5, 3}, {6, 4}, {7, 4}, {math.MaxInt, 4},
	} {
		s, was := done(t, steps...), done(t, steps...)
		if n := s.Trim(c.rev); n != c.want {
			t.Errorf("%d: %d, want %d", c.rev, n, c.want)
		}
		for rev := max(0, c.rev); rev < 9; rev++ {
			holdAt(t, s, rev, at(t, was, rev)...)
			holdEvents(t, s, rev, 9, was.Events(rev, 9)...)
		}
		if n := s.Trim(c.rev); n != 0 {
			t.Errorf("%d again: %d", c.rev, n)
		}
		if n := s.Trim(math.MaxInt); n != 4-c.want {
			t.Errorf("%d, then all: %d", c.rev, n)
		}
		holdAt(t, s, 9, "a", "e")
		holdEvents(t, s, 0, 9, begins(1, "e"), begins(6, "a"))
	}
}

// P14.4: what ended is no more, at revisions where it was, either.
func TestTrimmedIsNoMore(t *testing.T) {
	s := done(t, put("a", 1), put("b", 1), drop("a", 3), put("a", 3), drop("b", 4), drop("a", 5))
	if n := s.Trim(3); n != 1 {
		t.Error(n)
	}
	holdAt(t, s, 1, "b")
	holdAt(t, s, 2, "b")
	holdAt(t, s, 3, "a", "b")
	holdEvents(t, s, 0, 9, begins(1, "b"), begins(3, "a"), ends(4, "b"), ends(5, "a"))
	if n := s.Trim(4); n != 1 {
		t.Error(n)
	}
	holdAt(t, s, 1)
	holdAt(t, s, 3, "a")
	holdEvents(t, s, 0, 9, begins(3, "a"), ends(5, "a"))
	if n := s.Trim(5); n != 1 {
		t.Error(n)
	}
	holdEvents(t, s, 0, 9)
	if len(s.keys) != 0 {
		t.Errorf("kept: %v", s.keys)
	}
}

// P14.1, P14.4: behind a Trim, whatever it took, the last revision is the same, and open spans are open.
func TestTrimLeavesTheLastRevision(t *testing.T) {
	s := done(t, put("b", 2), put("a", 3), drop("a", 5))
	if n := s.Trim(100); n != 1 {
		t.Error(n)
	}
	if s.Put("a", 4) || s.Put("c", 1) || s.Drop("b", 4) || s.Drop("a", 6) || s.Put("b", 6) {
		t.Error("may be, below the last revision, or of what is there, or isn't")
	}
	if !s.Put("a", 5) || s.Drop("a", 5) || !s.Drop("b", 5) {
		t.Error("may not be")
	}
	holdEvents(t, s, 0, 9, begins(2, "b"), begins(5, "a"), ends(5, "b"))
}

// P14.1 to P14.4
func TestNil(t *testing.T) {
	var s *Spans
	for _, rev := range []int{math.MinInt, -1, 0, 1, math.MaxInt} {
		if s.Put("a", rev) || s.Drop("a", rev) || s.Has("a", rev) || s.Has("", rev) || s.Count(rev) != 0 || s.Trim(rev) != 0 {
			t.Error(rev)
		}
		if key, is := s.Next(rev, "", ""); key != "" || is {
			t.Error(rev, key, is)
		}
		if l := s.Events(math.MinInt, rev); l != nil {
			t.Error(rev, l)
		}
	}
}

// Whoever ranges over spans may stop at any of them.
func TestAllMayBeLeft(t *testing.T) {
	s := done(t, put("a", 1), drop("a", 2), put("a", 2), put("b", 2))
	for most := range 4 {
		n := 0
		for range s.all() {
			if n == most {
				break
			}
			n++
		}
		if n != most {
			t.Errorf("%d, want %d", n, most)
		}
	}
}

// P14.1 to P14.4: what New didn't make panics as little.
func TestZeroValue(t *testing.T) {
	var s Spans
	if s.Drop("a", 1) || s.Has("a", 1) || s.Trim(1) != 0 || s.Count(1) != 0 || s.Events(0, 1) != nil {
		t.Error("not empty")
	}
	s = Spans{}
	if !s.Put("a", 1) || !s.Drop("a", 2) || !s.Put("a", 2) {
		t.Error("put")
	}
	holdAt(t, &s, 1, "a")
	holdEvents(t, &s, 1, 2, ends(2, "a"), begins(2, "a"))
}

// P14.1, P14.2: texts of all kinds stand byte by byte.
func TestKeysOfAllKinds(t *testing.T) {
	long := strings.Repeat("z", 1<<12)
	keys := []string{
		"", "\x00", "\x00\x00", "\x00a", " ", "A", "Z", "a", "a\x00", "a\x00b", "aa", "ab", "b", "doc\x001\x00read\x00user\x00a\x00", "z",
		long, long + "a", "\x7f", "\x80", "é", "\xc3\xa9a", "\xed\xa0\x80", "\ufffd", "\U0010ffff", "\xff", "\xff\x00", "\xff\xff",
	}
	s := New()
	for i, key := range slices.Backward(keys) {
		if !s.Put(key, len(keys)-i) {
			t.Fatalf("%q", key)
		}
	}
	for i := range keys {
		holdAt(t, s, len(keys)-i, keys[i:]...)
	}
	for i, from := range keys {
		for k, to := range keys[1:] {
			key, is := s.Next(len(keys), from, to)
			if i <= k && (key != from || !is) || i > k && (key != "" || is) {
				t.Errorf("from %q to %q: %q %v", from, to, key, is)
			}
		}
	}
}

// P14.1 to P14.5
func TestManyEnd(t *testing.T) {
	const many = 1 << 16
	s := New()
	for i := range many {
		if !s.Put(strconv.Itoa(i), 1+i) || !s.Put("one", 1+i) || !s.Drop("one", 2+i) {
			t.Fatal(i)
		}
	}
	for _, rev := range []int{1, 2, many / 2, many} {
		if n := s.Count(rev); n != rev+1 {
			t.Errorf("at %d: %d", rev, n)
		}
		if key, is := s.Next(rev, "a", ""); key != "one" || !is || !s.Has("one", rev) {
			t.Errorf("at %d: %q %v", rev, key, is)
		}
	}
	if l := s.Events(0, many+1); len(l) != 3*many {
		t.Error(len(l))
	}
	if n := s.Trim(many / 2); n != many/2-1 || s.Has("one", 1) || !s.Has("one", many/2) {
		t.Error(n)
	}
	if n := s.Trim(many + 1); n != many/2+1 || s.Count(many+1) != many {
		t.Error(n)
	}
}
