package tuple

import (
	"cmp"
	"math/rand"
	"regexp"
	"slices"
	"strings"
	"testing"
	"unicode/utf8"

	"doorman/api"
	"doorman/table"
)

// name is a name, as the document tells it, of texts without a broken byte.
const name = `((?:[a-zA-Z0-9_]|[\x{A1}-\x{10FFFF}]){1,24})`

// texts and keys are what well formed nodes and tuples are told as.
var (
	nodes = regexp.MustCompile(`\A` + name + `:` + name + `(?:#` + name + `)?\z`)
	texts = regexp.MustCompile(`\A` + name + `:` + name + `#` + name + `@` + name + `:` + name + `(?:#` + name + `)?\z`)
	keys  = regexp.MustCompile(`\A` + name + "\x00" + name + "\x00" + name + "\x00" + name + "\x00" + name + "\x00" + name + `?\z`)
)

// told are the names that a text has by one of these; false: it has none.
func told(form *regexp.Regexp, s string) ([]string, bool) {
	if !utf8.ValidString(s) {
		return nil, false
	}
	l := form.FindStringSubmatch(s)
	if l == nil {
		return nil, false
	}
	return l[1:], true
}

// holdTold holds all that is read of a text against what the document tells.
func holdTold(t *testing.T, s string) {
	t.Helper()
	holdToldRead(t, s)
	var want api.Tuple
	wrong := api.ErrForm
	if l, ok := told(texts, s); ok {
		want, wrong = of(l[0], l[1], l[2], l[3], l[4], l[5]), api.OK
	}
	holdParse(t, s, want, wrong)
	want, is := api.Tuple{}, false
	if l, ok := told(keys, s); ok {
		want, is = of(l[0], l[1], l[2], l[3], l[4], l[5]), true
	}
	holdFrom(t, s, want, is)
}

// holdToldRead holds Read likewise.
func holdToldRead(t *testing.T, s string) {
	t.Helper()
	var want api.Node
	wrong := api.ErrForm
	if l, ok := told(nodes, s); ok {
		want, wrong = node(l[0], l[1], l[2]), api.OK
	}
	holdRead(t, s, want, wrong)
}

// P12.1, P12.2
func TestAllShortTextsAreReadAsTold(t *testing.T) {
	all := func(letters string, most int) {
		l := []string{""}
		for range most + 1 {
			var next []string
			for _, s := range l {
				holdTold(t, s)
				for i := range len(letters) {
					next = append(next, s+letters[i:i+1])
				}
			}
			l = next
		}
	}
	all("a:#@", 9)
	all("a\x00", 14)
	all("a:#@ \x00\xc3\xa9", 5)
}

// few are names that are drawn often, and odd are texts, most of them no names, that are drawn now and then.
var (
	few = []string{"a", "b", "ab", "A", "é", "0", "_", "type"}
	odd = slices.DeleteFunc(slices.Concat(goodNames(), badNames(), []string{"", ""}), func(s string) bool { return len(s) > 200 })
)

// drawnName is mostly a name.
func drawnName(r *rand.Rand) string {
	if r.Intn(8) > 0 {
		return few[r.Intn(len(few))]
	}
	return odd[r.Intn(len(odd))]
}

// drawn is a tuple, that may be well formed.
func drawn(r *rand.Rand) api.Tuple {
	x := of(drawnName(r), drawnName(r), drawnName(r), drawnName(r), drawnName(r), drawnName(r))
	if r.Intn(2) == 0 {
		x.Who.Rel = ""
	}
	return x
}

// spoilt is a text with a byte less, more, or another one.
func spoilt(r *rand.Rand, s string) string {
	const bytes = "a:#@\x00\xff\xa0\xc3 _"
	i, k := r.Intn(len(s)+1), r.Intn(len(bytes))
	rest := s[i:]
	if len(rest) > 0 && r.Intn(2) == 0 {
		rest = rest[1:]
	}
	return s[:i] + strings.Repeat(bytes[k:k+1], r.Intn(2)) + rest
}

// wellFormed tells whether a tuple is, as the document tells it.
func wellFormed(x api.Tuple) bool {
	_, ok := told(keys, strings.Join([]string{x.Node.Type, x.Node.Id, x.Node.Rel, x.Who.Type, x.Who.Id, x.Who.Rel}, "\x00"))
	return ok
}

// P12.1, P12.2
func TestDrawnTuplesAreTold(t *testing.T) {
	r := rand.New(rand.NewSource(1))
	well := 0
	for range 30000 {
		x := drawn(r)
		text, key := Text(x), Key(x)
		if want := Show(x.Node) + "@" + Show(x.Who); text != want {
			t.Fatalf("%q: %q", x, text)
		}
		if wellFormed(x) {
			well++
			holdParse(t, text, x, api.OK)
			holdFrom(t, key, x, true)
			holdRead(t, Show(x.Who), x.Who, api.OK)
		}
		for range 3 {
			holdTold(t, text)
			holdTold(t, key)
			holdToldRead(t, Show(x.Node))
			text, key = spoilt(r, text), spoilt(r, key)
		}
	}
	if well < 5000 {
		t.Error(well)
	}
}

// P12.2, P12.4
func TestDrawnTuplesStandAsTold(t *testing.T) {
	r := rand.New(rand.NewSource(2))
	near := 0
	for range 100000 {
		a, b := drawn(r), drawn(r)
		if r.Intn(2) == 0 {
			six := namesOf(a)
			six[r.Intn(6)] = drawnName(r)
			b = tupleOf(six)
			near++
		}
		want := cmp.Or(
			cmp.Compare(a.Node.Type, b.Node.Type), cmp.Compare(a.Node.Id, b.Node.Id), cmp.Compare(a.Node.Rel, b.Node.Rel),
			cmp.Compare(a.Who.Type, b.Who.Type), cmp.Compare(a.Who.Id, b.Who.Id), cmp.Compare(a.Who.Rel, b.Who.Rel),
		)
		if got := Compare(a, b); got != want {
			t.Fatalf("%q, %q: %d, want %d", a, b, got, want)
		}
		if got := cmp.Compare(Key(a), Key(b)); wellFormed(a) && wellFormed(b) && got != want {
			t.Fatalf("%q, %q: keys %d, want %d", a, b, got, want)
		}
	}
	if near < 1000 {
		t.Error(near)
	}
}

// toldRight is what Right is to tell, of what the table answers.
func toldRight(tab table.Table, x api.Tuple) api.Errno {
	has := func(n api.Node) bool {
		_, ok := tab.Id(n.Type, n.Rel)
		return ok
	}
	switch {
	case !wellFormed(x), !has(x.Node), !tab.Has(x.Who.Type), x.Who.Rel != "" && !has(x.Who):
		return api.ErrName
	}
	id, _ := tab.Id(x.Node.Type, x.Node.Rel)
	if tab.May(id, x.Who.Type, x.Who.Rel) {
		return api.OK
	}
	return api.ErrType
}

// P12.3
func TestRightAsTold(t *testing.T) {
	for _, text := range []string{"", "type user {}", docs, "type a { rel a (a, a, a): a, b#a; rel b (a, a, a): b; } type b { rel a (a, a, a): a#b; } type ab {}"} {
		tab := compiled(t, text)
		told := map[api.Errno]int{}
		l := []string{"", "a", "b", "ab", "user", "group", "doc", "member", "own", "up", "read", "none", "whole", "é", "è", "x", " "}
		for _, typ := range l {
			for _, rel := range l {
				for _, whoTyp := range l {
					for _, whoRel := range l {
						x := of(typ, "1", rel, whoTyp, "2", whoRel)
						want := toldRight(tab, x)
						told[want]++
						if got := Right(tab, x); got != want {
							t.Fatalf("%q: %v, want %v", x, got, want)
						}
					}
				}
			}
		}
		if tab.Len() > 0 && (told[api.OK] == 0 || told[api.ErrType] == 0) {
			t.Error(text, told)
		}
	}
}
