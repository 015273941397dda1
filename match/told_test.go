package match

import (
	"math/rand"
	"slices"
	"testing"

	"doorman/api"
)

// told is a set as the document tells it: keys that are there.
type told map[string]bool

// toldOf is the set of those keys.
func toldOf(keys []string) told {
	m := told{}
	for _, key := range keys {
		m[key] = true
	}
	return m
}

// keys are a set's, rising.
func (m told) keys() []string {
	var l []string
	for key, is := range m {
		if is {
			l = append(l, key)
		}
	}
	slices.Sort(l)
	return l
}

// apply is what Apply is to answer, one by one.
func (m told) apply(pres []Pre, changes []Change) ([]string, api.Errno, int) {
	for i, p := range pres {
		if m[p.Key] != p.Is {
			return nil, api.ErrThere, i
		}
	}
	now := toldOf(m.keys())
	for i, c := range changes {
		switch {
		case c.Add && now[c.Key]:
			return nil, api.ErrTwice, len(pres) + i
		case !c.Add && !now[c.Key]:
			return nil, api.ErrThere, len(pres) + i
		}
		now[c.Key] = c.Add
	}
	return now.keys(), api.OK, 0
}

// diff is what Diff is to answer, key by key.
func (m told) diff(to told) []Change {
	var l []Change
	for _, key := range Of(append(m.keys(), to.keys()...)...) {
		if m[key] != to[key] {
			l = append(l, Change{Key: key, Add: to[key]})
		}
	}
	return l
}

// holdApply holds Apply against what is told, and tells the error.
func holdApply(t *testing.T, keys []string, pres []Pre, changes []Change) api.Errno {
	t.Helper()
	s := Of(keys...)
	got, e, i := s.Apply(pres, changes)
	want, wrong, place := toldOf(keys).apply(pres, changes)
	if !slices.Equal(got, Set(want)) || e != wrong || i != place || e != api.OK && got != nil {
		t.Fatalf("%q %v %v: %q %v %d, want %q %v %d", keys, pres, changes, got, e, i, want, wrong, place)
	}
	if !slices.Equal(s, Of(keys...)) {
		t.Fatalf("%q %v %v: changed to %q", keys, pres, changes, s)
	}
	return e
}

// holdDiff holds Diff against what is told, and that it leads there.
func holdDiff(t *testing.T, keys, toKeys []string) {
	t.Helper()
	s, to := Of(keys...), Of(toKeys...)
	l := s.Diff(to)
	if want := toldOf(keys).diff(toldOf(toKeys)); !slices.Equal(l, want) {
		t.Fatalf("%q to %q: %v, want %v", keys, toKeys, l, want)
	}
	if got, e, i := s.Apply(nil, l); !slices.Equal(got, to) || e != api.OK || i != 0 {
		t.Fatalf("%q to %q: %q %v %d", keys, toKeys, got, e, i)
	}
}

// subsets are all sets of those keys.
func subsets(keys ...string) [][]string {
	l := [][]string{nil}
	for _, key := range keys {
		for _, s := range l {
			l = append(l, append(slices.Clone(s), key))
		}
	}
	return l
}

// lists are all lists of up to so many of those things.
func lists[T any](things []T, most int) [][]T {
	l := [][]T{nil}
	next := l
	for range most {
		var longer [][]T
		for _, ahead := range next {
			for _, x := range things {
				longer = append(longer, append(slices.Clone(ahead), x))
			}
		}
		l, next = append(l, longer...), longer
	}
	return l
}

// P13.1
func TestAllShortListsAreSetsAsTold(t *testing.T) {
	letters := []string{"", "a", "ab", "b", "\xff"}
	for _, keys := range lists(letters, 5) {
		s, m := Of(keys...), toldOf(keys)
		if !slices.Equal(s, Set(m.keys())) {
			t.Fatalf("%q: %q", keys, s)
		}
		for _, key := range append(letters, "A", "aa", "c") {
			if s.Has(key) != m[key] {
				t.Fatalf("%q of %q", key, keys)
			}
		}
	}
}

// P13.2
func TestAllShortChangesAsTold(t *testing.T) {
	var pres []Pre
	var changes []Change
	for _, key := range []string{"", "a", "b"} {
		pres = append(pres, in(key), out(key))
		changes = append(changes, add(key), take(key))
	}
	seen := map[api.Errno]int{}
	for _, s := range subsets("", "a", "b") {
		for _, p := range lists(pres, 2) {
			for _, c := range lists(changes, 3) {
				seen[holdApply(t, s, p, c)]++
			}
		}
		for _, c := range lists(changes, 5) {
			seen[holdApply(t, s, nil, c)]++
		}
	}
	if seen[api.OK] == 0 || seen[api.ErrTwice] == 0 || seen[api.ErrThere] == 0 {
		t.Error(seen)
	}
}

// P13.3, P13.4
func TestAllSmallSetsDifferAsTold(t *testing.T) {
	l := subsets("", "\x00", "A", "a", "a\x00", "ab", "\xff")
	for _, s := range l {
		for _, to := range l {
			holdDiff(t, s, to)
		}
	}
}

// drawnKey draws a short key.
func drawnKey(r *rand.Rand) string {
	const letters = "ab\x00\xff"
	b := make([]byte, r.Intn(4))
	for i := range b {
		b[i] = letters[r.Intn(len(letters))]
	}
	return string(b)
}

// drawnKeys draws up to so many keys.
func drawnKeys(r *rand.Rand, most int) []string {
	var l []string
	for range r.Intn(most + 1) {
		l = append(l, drawnKey(r))
	}
	return l
}

// drawnChanges draws changes that mostly may be, by turning what is there by then.
func drawnChanges(r *rand.Rand, keys []string, most int) []Change {
	now := toldOf(keys)
	var l []Change
	for range r.Intn(most + 1) {
		key := drawnKey(r)
		is := now[key] != (r.Intn(100) == 0)
		l = append(l, Change{Key: key, Add: !is})
		now[key] = !is
	}
	return l
}

// drawnPres draws what is mostly so.
func drawnPres(r *rand.Rand, keys []string, most int) []Pre {
	m := toldOf(keys)
	var l []Pre
	for range r.Intn(most + 1) {
		key := drawnKey(r)
		l = append(l, Pre{Key: key, Is: m[key] != (r.Intn(100) == 0)})
	}
	return l
}

// P13.2
func TestDrawnChangesAsTold(t *testing.T) {
	r := rand.New(rand.NewSource(1))
	seen := map[api.Errno]int{}
	for range 20000 {
		keys := drawnKeys(r, 80)
		seen[holdApply(t, keys, drawnPres(r, keys, 20), drawnChanges(r, keys, 60))]++
	}
	if seen[api.OK] < 5000 || seen[api.ErrTwice] < 1000 || seen[api.ErrThere] < 1000 {
		t.Error(seen)
	}
}

// P13.3, P13.4
func TestDrawnSetsDifferAsTold(t *testing.T) {
	r := rand.New(rand.NewSource(2))
	for range 10000 {
		holdDiff(t, drawnKeys(r, 100), drawnKeys(r, 100))
	}
}
