package spans

import (
	"cmp"
	"math"
	"math/rand"
	"slices"
	"testing"
)

// told is what the document tells of spans: what was done, in order, less what was trimmed. A revision's keys are what comes of doing all up to it once more.
type told struct {
	did  []Event
	last int
}

// do tells whether a step may be, and if so has it done.
func (m *told) do(e Event) bool {
	at, is := 0, false
	for _, x := range m.did {
		if x.Key == e.Key {
			at, is = x.Rev, x.Add
		}
	}
	if e.Rev < m.last || e.Rev < 1 || e.Add == is || !e.Add && at >= e.Rev {
		return false
	}
	m.did, m.last = append(m.did, e), e.Rev
	return true
}

// keys are a revision's, rising.
func (m *told) keys(rev int) []string {
	var l []string
	for _, e := range m.did {
		switch {
		case e.Rev > rev:
		case e.Add:
			l = append(l, e.Key)
		default:
			l = slices.DeleteFunc(l, func(key string) bool { return key == e.Key })
		}
	}
	slices.Sort(l)
	return l
}

// events are what was done behind a revision, up to another one. Of one key and revision the end was done first.
func (m *told) events(from, to int) []Event {
	var l []Event
	for _, e := range m.did {
		if from < e.Rev && e.Rev <= to {
			l = append(l, e)
		}
	}
	slices.SortStableFunc(l, func(a, b Event) int { return cmp.Compare(a.Key, b.Key) })
	slices.SortStableFunc(l, func(a, b Event) int { return cmp.Compare(a.Rev, b.Rev) })
	return l
}

// trim takes out each end up to a revision, and the beginning that it is of.
func (m *told) trim(rev int) int {
	n := 0
	for i := 0; i < len(m.did); i++ {
		if e := m.did[i]; !e.Add && e.Rev <= rev {
			k := slices.IndexFunc(m.did, func(x Event) bool { return x.Add && x.Key == e.Key })
			m.did = slices.Delete(slices.Delete(m.did, i, i+1), k, k+1)
			n++
			i -= 2
		}
	}
	return n
}

// hold holds all that spans answer, at revisions up to one, against what is told.
func (m *told) hold(t *testing.T, s *Spans, most int, keys []string) {
	t.Helper()
	for rev := -1; rev <= most; rev++ {
		want := m.keys(rev)
		if got := at(t, s, rev); !slices.Equal(got, want) {
			t.Fatalf("%v: at %d %q, want %q", m.did, rev, got, want)
		}
		for _, key := range keys {
			if s.Has(key, rev) != slices.Contains(want, key) {
				t.Fatalf("%v: %q at %d", m.did, key, rev)
			}
		}
		m.holdNext(t, s, rev, keys)
		for to := -1; to <= most; to++ {
			if got := s.Events(rev, to); !slices.Equal(got, m.events(rev, to)) {
				t.Fatalf("%v: behind %d, up to %d: %v", m.did, rev, to, got)
			}
		}
	}
}

// holdNext holds Next of all pairs of keys at a revision.
func (m *told) holdNext(t *testing.T, s *Spans, rev int, keys []string) {
	t.Helper()
	there := m.keys(rev)
	for _, from := range keys {
		for _, to := range keys {
			i := slices.IndexFunc(there, func(key string) bool { return key >= from && (to == "" || key < to) })
			want := ""
			if i >= 0 {
				want = there[i]
			}
			if got, is := s.Next(rev, from, to); got != want || is != (i >= 0) {
				t.Fatalf("%v: at %d from %q to %q: %q %v, want %q", m.did, rev, from, to, got, is, want)
			}
		}
	}
}

// holdEvery holds that what is there at each revision from one on, with the Events behind it, is what is there at each later one (P14.5).
func holdEvery(t *testing.T, s *Spans, from, most int) {
	t.Helper()
	for rev := from; rev <= most; rev++ {
		for later := rev; later <= most; later++ {
			now := map[string]int{}
			for _, key := range at(t, s, rev) {
				now[key] = 1
			}
			for _, e := range s.Events(rev, later) {
				if e.Add {
					now[e.Key]++
				} else {
					now[e.Key]--
				}
				if now[e.Key] < 0 || now[e.Key] > 1 {
					t.Fatalf("from %d to %d: %v of what may not be", rev, later, e)
				}
			}
			var l []string
			for key, n := range now {
				if n == 1 {
					l = append(l, key)
				}
			}
			slices.Sort(l)
			if want := at(t, s, later); !slices.Equal(l, want) {
				t.Fatalf("from %d to %d: %q, want %q", rev, later, l, want)
			}
		}
	}
}

// doBoth does a step, and holds its answer against what is told.
func doBoth(t *testing.T, s *Spans, m *told, e Event) bool {
	t.Helper()
	ahead := slices.Clone(m.did)
	want := m.do(e)
	if got := do(s, e); got != want {
		t.Fatalf("%v, then %v: %v", ahead, e, got)
	}
	return want
}

// trimBoth trims, and holds the answer against what is told, and that all from there on is as it was (P14.4).
func trimBoth(t *testing.T, s *Spans, m *told, rev, most int) {
	t.Helper()
	was := &told{did: slices.Clone(m.did)}
	want := m.trim(rev)
	if got := s.Trim(rev); got != want {
		t.Fatalf("%v: Trim of %d: %d, want %d", was.did, rev, got, want)
	}
	for at := max(rev, -1); at <= most; at++ {
		if !slices.Equal(m.keys(at), was.keys(at)) || !slices.Equal(m.events(at, most), was.events(at, most)) {
			t.Fatalf("%v: Trim of %d isn't told well at %d", was.did, rev, at)
		}
	}
}

// all does all lists of so many of those steps, each time from the beginning on, and then trims.
func all(t *testing.T, steps []Event, most, revs int, keys []string) {
	t.Helper()
	l := make([]int, most)
	for {
		s, m := New(), &told{}
		may := 0
		for _, i := range l {
			if doBoth(t, s, m, steps[i]) {
				may++
			}
		}
		if may == most { // those in which something may not be are as good as shorter ones
			m.hold(t, s, revs, keys)
			holdEvery(t, s, 0, revs)
			for rev := range revs + 1 {
				trimBoth(t, s, m, rev, revs)
				m.hold(t, s, revs, keys)
				holdEvery(t, s, rev, revs)
			}
		}
		i := 0
		for i < most && l[i] == len(steps)-1 {
			l[i], i = 0, i+1
		}
		if i == most {
			return
		}
		l[i]++
	}
}

// P14.1 to P14.5
func TestAllShortListsOfStepsAsTold(t *testing.T) {
	const revs = 3
	keys := []string{"", "a"}
	var steps []Event
	for rev := -1; rev <= revs; rev++ {
		for _, key := range keys {
			steps = append(steps, begins(rev, key), ends(rev, key))
		}
	}
	for most := range 5 {
		all(t, steps, most, revs+1, append(keys, "\x00", "b"))
	}
}

// drawnKey draws a short key.
func drawnKey(r *rand.Rand) string {
	const letters = "ab\x00\xff"
	b := make([]byte, r.Intn(3))
	for i := range b {
		b[i] = letters[r.Intn(len(letters))]
	}
	return string(b)
}

// drawnStep draws a step that mostly may be.
func drawnStep(r *rand.Rand, s *Spans, last int) Event {
	key := drawnKey(r)
	e := Event{Rev: last + r.Intn(8)/6, Key: key, Add: !s.Has(key, math.MaxInt)}
	switch r.Intn(20) {
	case 0:
		e.Add = !e.Add
	case 1:
		e.Rev -= 2
	}
	return e
}

// P14.1 to P14.5
func TestDrawnStepsAsTold(t *testing.T) {
	r := rand.New(rand.NewSource(1))
	keys := []string{"", "\x00", "a", "a\x00", "ab", "b", "ba", "\xff", "\xff\xff"}
	may, not := 0, 0
	for range 300 {
		s, m := New(), &told{}
		floor := 0
		for range r.Intn(120) {
			if r.Intn(30) == 0 {
				floor = max(floor, r.Intn(m.last+2))
				trimBoth(t, s, m, floor, m.last+1)
			}
			if doBoth(t, s, m, drawnStep(r, s, m.last)) {
				may++
			} else {
				not++
			}
		}
		m.hold(t, s, m.last+1, keys)
		holdEvery(t, s, floor, m.last+1)
	}
	if may < 5000 || not < 1000 {
		t.Error(may, not)
	}
}
