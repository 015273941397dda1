package match

import (
	"slices"
	"strconv"
	"strings"
	"testing"

	"doorman/api"
)

// add and take are the two changes of a key.
func add(key string) Change  { return Change{Key: key, Add: true} }
func take(key string) Change { return Change{Key: key} }

// in and out ask that a key is there, and that it isn't.
func in(key string) Pre  { return Pre{Key: key, Is: true} }
func out(key string) Pre { return Pre{Key: key} }

// rising are keys of all kinds, each one above the one ahead.
func rising() []string {
	return []string{
		"", "\x00", "\x00\x00", "\x00a", " ", "A", "Z", "a", "a\x00", "a\x00b", "aa", "ab", "b", "doc\x001\x00read\x00user\x00a\x00", "z",
		strings.Repeat("z", 1<<12), strings.Repeat("z", 1<<12) + "a", "\x7f", "\x80", "é", "\xc3\xa9a", "\xed\xa0\x80", "\ufffd", "\U0010ffff", "\xff", "\xff\x00", "\xff\xff",
	}
}

// holdSet holds a set against the keys that are wanted.
func holdSet(t *testing.T, what string, s Set, want ...string) {
	t.Helper()
	if !slices.Equal(s, Set(want)) {
		t.Errorf("%s: %q, want %q", what, s, want)
	}
}

// P13.1
func TestOf(t *testing.T) {
	holdSet(t, "none", Of())
	holdSet(t, "nil", Of([]string(nil)...))
	holdSet(t, "one", Of("a"), "a")
	holdSet(t, "the empty key", Of(""), "")
	holdSet(t, "the empty key twice", Of("", ""), "")
	holdSet(t, "rising", Of("a", "b", "c"), "a", "b", "c")
	holdSet(t, "falling", Of("c", "b", "a"), "a", "b", "c")
	holdSet(t, "one that is there twice", Of("b", "a", "b"), "a", "b")
	holdSet(t, "all the same", Of("a", "a", "a", "a"), "a")
	holdSet(t, "some beginning likewise", Of("ab", "a", "abc", "", "b"), "", "a", "ab", "abc", "b")
	holdSet(t, "upper and lower", Of("a", "A", "é", "É"), "A", "a", "É", "é")
	l := append(rising(), rising()...)
	slices.Reverse(l)
	holdSet(t, "all kinds", Of(l...), rising()...)
}

// P13.1
func TestOfIsNewMemory(t *testing.T) {
	l := []string{"b", "a", "b", "c"}
	s := Of(l...)
	if !slices.Equal(l, []string{"b", "a", "b", "c"}) {
		t.Errorf("changed: %q", l)
	}
	clear(l)
	holdSet(t, "kept", s, "a", "b", "c")
	l = []string{"a", "b"}
	s = Of(l...)
	clear(s)
	if !slices.Equal(l, []string{"a", "b"}) {
		t.Errorf("shared: %q", l)
	}
}

// P13.1
func TestHas(t *testing.T) {
	l := rising()
	for n := range len(l) + 1 {
		s := Of(l[:n]...)
		for i, key := range l {
			if got := s.Has(key); got != (i < n) {
				t.Errorf("%q of the first %d: %v", key, n, got)
			}
		}
	}
	for _, c := range []struct {
		s    Set
		key  string
		want bool
	}{
		{nil, "", false},
		{Set{}, "a", false},
		{Of("b"), "a", false},
		{Of("b"), "b", true},
		{Of("b"), "c", false},
		{Of("b"), "", false},
		{Of("b"), "bb", false},
		{Of("bb"), "b", false},
		{Of("b"), "B", false},
		{Of("a", "c"), "b", false},
		{Of("", "c"), "", true},
		{Of("a", "c", "e"), "e", true},
		{Of("a", "c", "e"), "f", false},
	} {
		if got := c.s.Has(c.key); got != c.want {
			t.Errorf("%q of %q: %v", c.key, c.s, got)
		}
	}
}

// applied is a call of Apply, and what it is to answer.
type applied struct {
	what    string
	s       Set
	pres    []Pre
	changes []Change
	want    Set
	wrong   api.Errno
	place   int
}

// hold holds a call's answer, and that it changed nothing that was handed in.
func (c applied) hold(t *testing.T) {
	t.Helper()
	s, pres, changes := slices.Clone(c.s), slices.Clone(c.pres), slices.Clone(c.changes)
	got, e, place := c.s.Apply(c.pres, c.changes)
	if !slices.Equal(got, c.want) || e != c.wrong || place != c.place {
		t.Errorf("%s: %q %v %d, want %q %v %d", c.what, got, e, place, c.want, c.wrong, c.place)
	}
	if e != api.OK && got != nil {
		t.Errorf("%s: a set beside an error", c.what)
	}
	if !slices.Equal(c.s, s) || !slices.Equal(c.pres, pres) || !slices.Equal(c.changes, changes) {
		t.Errorf("%s: changed %q %v %v", c.what, c.s, c.pres, c.changes)
	}
}

// P13.2
func TestApply(t *testing.T) {
	ab := Of("a", "b")
	for _, c := range []applied{
		{"the chapter's example", ab, nil, []Change{take("b"), add("c")}, Set{"a", "c"}, api.OK, 0},
		{"nothing of nothing", nil, nil, nil, nil, api.OK, 0},
		{"nothing", ab, nil, nil, ab, api.OK, 0},
		{"empty lists", ab, []Pre{}, []Change{}, ab, api.OK, 0},
		{"asked alone", ab, []Pre{in("a"), out("c"), in("b")}, nil, ab, api.OK, 0},
		{"asked twice", ab, []Pre{in("a"), in("a"), out(""), out("")}, nil, ab, api.OK, 0},
		{"the first one", nil, nil, []Change{add("a")}, Set{"a"}, api.OK, 0},
		{"the empty key", nil, []Pre{out("")}, []Change{add("")}, Set{""}, api.OK, 0},
		{"the last one", Of("a"), nil, []Change{take("a")}, nil, api.OK, 0},
		{"all", ab, nil, []Change{take("b"), take("a")}, nil, api.OK, 0},
		{"ahead of all", ab, nil, []Change{add("A")}, Set{"A", "a", "b"}, api.OK, 0},
		{"between", ab, nil, []Change{add("aa")}, Set{"a", "aa", "b"}, api.OK, 0},
		{"behind all", ab, nil, []Change{add("c")}, Set{"a", "b", "c"}, api.OK, 0},
		{"put in and taken out", ab, nil, []Change{add("c"), take("c")}, ab, api.OK, 0},
		{"taken out and put in", ab, nil, []Change{take("a"), add("a")}, ab, api.OK, 0},
		{"in, out and in", ab, nil, []Change{add("c"), take("c"), add("c")}, Set{"a", "b", "c"}, api.OK, 0},
		{"out, in and out", ab, nil, []Change{take("a"), add("a"), take("a")}, Set{"b"}, api.OK, 0},
		{"asked and changed", ab, []Pre{in("a"), out("c")}, []Change{take("a"), add("c")}, Set{"b", "c"}, api.OK, 0},
		{"a broken byte", Of("\xff"), []Pre{in("\xff"), out("\xfe")}, []Change{add("\xfe"), add("\ufffd")}, Set{"\ufffd", "\xfe", "\xff"}, api.OK, 0},
	} {
		c.hold(t)
	}
}

// P13.2
func TestApplyOfWhatMayNotBe(t *testing.T) {
	ab := Of("a", "b")
	for _, c := range []applied{
		{"asked that one is there", ab, []Pre{in("c")}, nil, nil, api.ErrThere, 0},
		{"asked that one isn't", ab, []Pre{out("b")}, nil, nil, api.ErrThere, 0},
		{"asked of nothing", nil, []Pre{in("")}, nil, nil, api.ErrThere, 0},
		{"asked behind others", ab, []Pre{in("a"), out("c"), in("c"), in("d")}, nil, nil, api.ErrThere, 2},
		{"put in twice", ab, nil, []Change{add("a")}, nil, api.ErrTwice, 0},
		{"put in twice by changes", ab, nil, []Change{add("c"), take("a"), add("c")}, nil, api.ErrTwice, 2},
		{"put in again, and once more", ab, nil, []Change{take("a"), add("a"), add("a")}, nil, api.ErrTwice, 2},
		{"taken out, not there", ab, nil, []Change{take("c")}, nil, api.ErrThere, 0},
		{"taken out of nothing", nil, nil, []Change{take("")}, nil, api.ErrThere, 0},
		{"taken out twice", ab, nil, []Change{take("a"), add("c"), take("a")}, nil, api.ErrThere, 2},
		{"taken out again", ab, nil, []Change{add("c"), take("c"), take("c")}, nil, api.ErrThere, 2},
		{"taken out ahead of being put in", ab, nil, []Change{take("c"), add("c")}, nil, api.ErrThere, 0},
		{"places count on", ab, []Pre{in("a"), out("c")}, []Change{add("d"), take("e")}, nil, api.ErrThere, 3},
		{"places count on, twice", ab, []Pre{in("a"), out("c"), in("b")}, []Change{add("b")}, nil, api.ErrTwice, 3},
		{"what is asked is first", ab, []Pre{in("a"), in("c")}, []Change{add("a"), take("c")}, nil, api.ErrThere, 1},
		{"the first change is", ab, nil, []Change{take("c"), add("a")}, nil, api.ErrThere, 0},
		{"the first change is, twice", ab, nil, []Change{add("a"), take("c")}, nil, api.ErrTwice, 0},
		{"asked of what was", ab, []Pre{in("c")}, []Change{add("c")}, nil, api.ErrThere, 0},
		{"asked of what was, out", ab, []Pre{out("a")}, []Change{take("a")}, nil, api.ErrThere, 0},
		{"one that begins likewise", Of("ab"), nil, []Change{take("a")}, nil, api.ErrThere, 0},
		{"one that begins with it", Of("a"), []Pre{in("ab")}, nil, nil, api.ErrThere, 0},
	} {
		c.hold(t)
	}
}

// P13.2
func TestApplyIsNewMemory(t *testing.T) {
	// Room behind a set, or between its keys, is somebody else's.
	row := []string{"a", "c", "x", "y", "z"}
	s := Set(row[:2])
	for _, l := range [][]Change{nil, {add("b")}, {add("d"), add("e")}, {take("a")}, {take("a"), add("b")}, {take("a"), add("a")}, {take("a"), take("c")}} {
		got, e, _ := s.Apply(nil, l)
		if e != api.OK {
			t.Fatal(l, e)
		}
		clear(got[:cap(got)])
		if !slices.Equal(row, []string{"a", "c", "x", "y", "z"}) {
			t.Fatalf("%v: %q", l, row)
		}
	}
	s = Of("a", "c")
	got, _, _ := s.Apply(nil, []Change{add("b")})
	clear(s)
	holdSet(t, "kept", got, "a", "b", "c")
}

// P13.3
func TestDiff(t *testing.T) {
	for _, c := range []struct {
		s, to Set
		want  []Change
	}{
		{nil, nil, nil},
		{nil, Set{}, nil},
		{Of("a"), Of("a"), nil},
		{nil, Of(""), []Change{add("")}},
		{Of(""), nil, []Change{take("")}},
		{nil, Of("b", "a"), []Change{add("a"), add("b")}},
		{Of("b", "a"), nil, []Change{take("a"), take("b")}},
		{Of("a"), Of("b"), []Change{take("a"), add("b")}},
		{Of("b"), Of("a"), []Change{add("a"), take("b")}},
		{Of("a", "b"), Of("b", "c"), []Change{take("a"), add("c")}},
		{Of("b", "c"), Of("a", "b"), []Change{add("a"), take("c")}},
		{Of("a", "c", "e"), Of("b", "c", "d"), []Change{take("a"), add("b"), add("d"), take("e")}},
		{Of("a"), Of("a", "b", "c"), []Change{add("b"), add("c")}},
		{Of("c"), Of("a", "b", "c"), []Change{add("a"), add("b")}},
		{Of("a", "b", "c"), Of("a"), []Change{take("b"), take("c")}},
		{Of("a", "b", "c"), Of("c"), []Change{take("a"), take("b")}},
		{Of("a", "A", "aa", "é"), Of("a\x00", "\xff", "", "aa"), []Change{add(""), take("A"), take("a"), add("a\x00"), take("é"), add("\xff")}},
	} {
		s, to := slices.Clone(c.s), slices.Clone(c.to)
		if got := c.s.Diff(c.to); !slices.Equal(got, c.want) {
			t.Errorf("%q to %q: %v, want %v", c.s, c.to, got, c.want)
		}
		if !slices.Equal(c.s, s) || !slices.Equal(c.to, to) {
			t.Errorf("changed: %q %q", c.s, c.to)
		}
	}
}

// P13.3
func TestDiffOfAllKinds(t *testing.T) {
	var s, to Set
	var want []Change
	for i, key := range rising() {
		switch i % 3 {
		case 0:
			s, want = append(s, key), append(want, take(key))
		case 1:
			to, want = append(to, key), append(want, add(key))
		default:
			s, to = append(s, key), append(to, key)
		}
	}
	if got := s.Diff(to); !slices.Equal(got, want) {
		t.Errorf("%v, want %v", got, want)
	}
}

// P13.2, P13.3: what isn't rising has some answer.
func TestWhatIsNoSet(t *testing.T) {
	for _, s := range []Set{{"b", "a"}, {"a", "a"}, {"c", "a", "b", "a"}, {"", ""}, {"\xff", "", "\xff"}} {
		for _, to := range []Set{{"b", "a"}, {"a", "a", "a"}, nil, {"z", "y", ""}, s} {
			if first, again := s.Diff(to), s.Diff(to); !slices.Equal(first, again) {
				t.Errorf("%q to %q: %v, then %v", s, to, first, again)
			}
			changes := s.Diff(to)
			first, e, i := s.Apply([]Pre{in("a")}, changes)
			again, e2, i2 := s.Apply([]Pre{in("a")}, changes)
			if !slices.Equal(first, again) || e != e2 || i != i2 {
				t.Errorf("%q: %q %v %d, then %q %v %d", s, first, e, i, again, e2, i2)
			}
		}
		for _, key := range []string{"", "a", "b", "c", "\xff"} {
			if first, again := s.Has(key), s.Has(key); first != again {
				t.Errorf("%q of %q: %v, then %v", key, s, first, again)
			}
		}
	}
}

// P13.2, P13.4
func TestLongListsEnd(t *testing.T) {
	const many = 1 << 17
	var pres []Pre
	var changes []Change
	for i := range many {
		key := strconv.Itoa(many - i)
		pres, changes = append(pres, out(key)), append(changes, add(key))
	}
	s, e, place := Set(nil).Apply(pres, changes)
	if len(s) != many || e != api.OK || place != 0 || !slices.IsSorted(s) {
		t.Fatal(len(s), e, place)
	}
	if got, e, place := s.Apply(nil, changes); got != nil || e != api.ErrTwice || place != 0 {
		t.Error(len(got), e, place)
	}
	if got, e, place := Set(nil).Apply(pres, append(changes, take("none"))); got != nil || e != api.ErrThere || place != 2*many {
		t.Error(len(got), e, place)
	}
	none, e, _ := s.Apply(nil, s.Diff(nil))
	if len(none) != 0 || e != api.OK {
		t.Error(len(none), e)
	}
}
