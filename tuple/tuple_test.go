package tuple

import (
	"slices"
	"strings"
	"testing"

	"doorman/api"
	"doorman/table"
)

// node is a node of three names.
func node(typ, id, rel string) api.Node { return api.Node{Type: typ, Id: id, Rel: rel} }

// of is a tuple of six names.
func of(a, b, c, d, e, f string) api.Tuple { return api.Tuple{Node: node(a, b, c), Who: node(d, e, f)} }

// goodNames are names of all kinds of runes, and of all lengths that are at an edge.
func goodNames() []string {
	return []string{
		"a", "z", "A", "Z", "0", "9", "_", "__", "type", "this", "A_0", "007",
		"é", "aé", "\u00a1", "\u07ff", "\u0800", "\ud7ff", "\ue000", "\ufffd", "\uffff", "\U00010000", "\U0010ffff",
		strings.Repeat("a", 24), strings.Repeat("é", 24), strings.Repeat("\U0010ffff", 24),
	}
}

// badNames are texts that are no names, none of them empty.
func badNames() []string {
	return []string{
		" ", "a ", " a", "a b", "\n", "a\n", "\t", ":", "#", "@", "a:b", "a#b", "a@b", "-", "a-b", ".", "/", "`", "[", "{", "\x7f",
		"\x00", "a\x00", "\x00a", "a\x00b", "\u0080", "\u00a0", "a\u00a0b", "\x80", "\xff", "a\xc3", "\xc0\x80", "\xed\xa0\x80", "\xf4\x90\x80\x80",
		strings.Repeat("a", 25), strings.Repeat("é", 25), strings.Repeat("\U0010ffff", 25), strings.Repeat("a", 1<<16),
	}
}

// P12.1
func TestShow(t *testing.T) {
	for _, c := range []struct {
		n    api.Node
		want string
	}{
		{node("doc", "1", "read"), "doc:1#read"},
		{node("user", "a", ""), "user:a"},
		{node("é", "è", "ê"), "é:è#ê"},
		// What isn't well formed is shown likewise.
		{api.Node{}, ":"},
		{node("", "", "r"), ":#r"},
		{node("a", "", ""), "a:"},
		{node("a#b", "c:d", "#"), "a#b:c:d##"},
		{node("\x00", "\xff", " "), "\x00:\xff# "},
	} {
		if got := Show(c.n); got != c.want {
			t.Errorf("%q: %q, want %q", c.n, got, c.want)
		}
	}
}

// P12.1
func TestText(t *testing.T) {
	for _, c := range []struct {
		x    api.Tuple
		want string
	}{
		{of("doc", "1", "read", "group", "a", "member"), "doc:1#read@group:a#member"},
		{of("doc", "1", "read", "user", "a", ""), "doc:1#read@user:a"},
		{of("doc", "1", "", "user", "a", ""), "doc:1@user:a"},
		{api.Tuple{}, ":@:"},
		{of("@", "#", ":", "\xff", "\x00", "@"), "@:##:@\xff:\x00#@"},
	} {
		if got := Text(c.x); got != c.want {
			t.Errorf("%q: %q, want %q", c.x, got, c.want)
		}
	}
}

// holdRead tells whether Read tells just that of a text.
func holdRead(t *testing.T, s string, want api.Node, wrong api.Errno) {
	t.Helper()
	if n, e := Read(s); n != want || e != wrong {
		t.Errorf("%q: %q %v, want %q %v", s, n, e, want, wrong)
	}
}

// P12.1
func TestRead(t *testing.T) {
	holdRead(t, "doc:1#read", node("doc", "1", "read"), api.OK)
	holdRead(t, "user:a", node("user", "a", ""), api.OK)
	for _, s := range goodNames() {
		holdRead(t, s+":a", node(s, "a", ""), api.OK)
		holdRead(t, "a:"+s, node("a", s, ""), api.OK)
		holdRead(t, "a:b#"+s, node("a", "b", s), api.OK)
		holdRead(t, s+":"+s+"#"+s, node(s, s, s), api.OK)
	}
}

// P12.1
func TestReadOfNone(t *testing.T) {
	for _, s := range []string{
		"", "a", ":", "#", "@", ":a", "a:", ":a#b", "a:#b", "a#b", "#b", ":#", "a:b#", "a:b##", "a:b#c#", "a:b##c", "a:b#c#d", "a:b#c:d",
		"a:b:c", "a::b", "a:b:", "::", "a#b:c", "#a:b", "a:b#c@d:e", "a:b@", "@a:b", "a:b ", " a:b", "a: b", "a :b", "a:b# c", "a:b\n", "a:b#c\n",
		"a\x00b", "a:b\x00", "a\x00b\x00c", "a/b", strings.Repeat("a:", 1<<16), strings.Repeat("#", 1<<16),
	} {
		holdRead(t, s, api.Node{}, api.ErrForm)
	}
	for _, s := range badNames() {
		holdRead(t, "a:b#"+s, api.Node{}, api.ErrForm)
		holdRead(t, s+":b#c", api.Node{}, api.ErrForm)
		holdRead(t, s+":b", api.Node{}, api.ErrForm)
		if s != "a#b" { // There it is an Id and a Rel.
			holdRead(t, "a:"+s, api.Node{}, api.ErrForm)
		}
		holdRead(t, "a:"+s+"#c", api.Node{}, api.ErrForm)
	}
}

// holdParse tells whether Parse tells just that of a text.
func holdParse(t *testing.T, s string, want api.Tuple, wrong api.Errno) {
	t.Helper()
	if x, e := Parse(s); x != want || e != wrong {
		t.Errorf("%q: %q %v, want %q %v", s, x, e, want, wrong)
	}
}

// P12.1
func TestParse(t *testing.T) {
	holdParse(t, "doc:1#read@group:a#member", of("doc", "1", "read", "group", "a", "member"), api.OK)
	holdParse(t, "doc:1#read@user:a", of("doc", "1", "read", "user", "a", ""), api.OK)
	for _, s := range goodNames() {
		for i := range 6 {
			l := names{"a", "b", "c", "d", "e", "f"}
			l[i] = s
			holdParse(t, l[0]+":"+l[1]+"#"+l[2]+"@"+l[3]+":"+l[4]+"#"+l[5], of(l[0], l[1], l[2], l[3], l[4], l[5]), api.OK)
		}
		holdParse(t, s+":"+s+"#"+s+"@"+s+":"+s, of(s, s, s, s, s, ""), api.OK)
	}
}

// P12.1
func TestParseOfNone(t *testing.T) {
	for _, s := range []string{
		"", "@", "a", "a:b", "a:b#c", "a:b#c@", "@a:b", "@a:b#c", "a:b@c:d", "a:b@c:d#e", "a:b#@c:d", "a:b#c@d", "a:b#c@d:", "a:b#c@:e", "a:b#c@d:e#", "a:b#c@d#e",
		"a#c@d:e", "a:#c@d:e", ":b#c@d:e", "a:b#c@@d:e", "a:b#c@d:e@", "@a:b#c@d:e", "a:b#c@d:e@f:g", "a:b#c@d:e#f@g:h", "a:b#c#d@e:f", "a:b#c@d:e#f#g", "a:b#c@d:e#f#",
		"a:b#c @d:e", "a:b#c@ d:e", "a:b#c@d:e ", " a:b#c@d:e", "a:b#c@d:e\n", "a\x00b\x00c\x00d\x00e\x00f", "a:b#c\x00d:e", strings.Repeat("a:b#c@", 1<<14), strings.Repeat("@", 1<<16),
	} {
		holdParse(t, s, api.Tuple{}, api.ErrForm)
	}
	for _, s := range badNames() {
		for i := range 6 {
			l := names{"a", "b", "c", "d", "e", "f"}
			l[i] = s
			holdParse(t, l[0]+":"+l[1]+"#"+l[2]+"@"+l[3]+":"+l[4]+"#"+l[5], api.Tuple{}, api.ErrForm)
			if i < 5 && (i != 4 || s != "a#b") { // There it is an Id and a Rel.
				holdParse(t, l[0]+":"+l[1]+"#"+l[2]+"@"+l[3]+":"+l[4], api.Tuple{}, api.ErrForm)
			}
		}
	}
}

// P12.2
func TestKey(t *testing.T) {
	for _, c := range []struct {
		x    api.Tuple
		want string
	}{
		{of("doc", "1", "read", "group", "a", "member"), "doc\x001\x00read\x00group\x00a\x00member"},
		{of("doc", "1", "read", "user", "a", ""), "doc\x001\x00read\x00user\x00a\x00"},
		{of("é", "è", "ê", "É", "È", "Ê"), "é\x00è\x00ê\x00É\x00È\x00Ê"},
		// What isn't well formed has a key likewise.
		{api.Tuple{}, "\x00\x00\x00\x00\x00"},
		{of("", "1", "", "user", "", ""), "\x001\x00\x00user\x00\x00"},
		{of("\x00", "a", "\xff", ":", "#", "@"), "\x00\x00a\x00\xff\x00:\x00#\x00@"},
	} {
		if got := Key(c.x); got != c.want {
			t.Errorf("%q: %q, want %q", c.x, got, c.want)
		}
	}
}

// holdFrom tells whether From tells just that of a key.
func holdFrom(t *testing.T, key string, want api.Tuple, is bool) {
	t.Helper()
	if x, ok := From(key); x != want || ok != is {
		t.Errorf("%q: %q %v, want %q %v", key, x, ok, want, is)
	}
}

// P12.2
func TestFrom(t *testing.T) {
	holdFrom(t, "doc\x001\x00read\x00group\x00a\x00member", of("doc", "1", "read", "group", "a", "member"), true)
	holdFrom(t, "doc\x001\x00read\x00user\x00a\x00", of("doc", "1", "read", "user", "a", ""), true)
	for _, s := range goodNames() {
		for i := range 6 {
			l := names{"a", "b", "c", "d", "e", "f"}
			l[i] = s
			holdFrom(t, strings.Join(l[:], "\x00"), of(l[0], l[1], l[2], l[3], l[4], l[5]), true)
		}
	}
}

// P12.2
func TestFromOfNone(t *testing.T) {
	for _, s := range []string{
		"", "\x00", "a", "doc:1#read@user:a", "\x00\x00\x00\x00\x00",
		// Too few names, and too many.
		"a\x00b\x00c\x00d\x00e", "a\x00b\x00c\x00d", "a\x00b\x00c\x00d\x00e\x00f\x00", "a\x00b\x00c\x00d\x00e\x00\x00", "a\x00b\x00c\x00d\x00e\x00f\x00g", "a\x00b\x00c\x00d\x00e\x00\x00g",
		"\x00a\x00b\x00c\x00d\x00e\x00f", "\x00a\x00b\x00c\x00d\x00e\x00",
		strings.Repeat("a\x00", 1<<16), strings.Repeat("\x00", 1<<16),
	} {
		holdFrom(t, s, api.Tuple{}, false)
	}
	for i := range 6 {
		l := names{"a", "b", "c", "d", "e", "f"}
		for _, s := range append(badNames(), "") {
			if i == 5 && s == "" { // Who may be an object.
				continue
			}
			l[i] = s
			holdFrom(t, strings.Join(l[:], "\x00"), api.Tuple{}, false)
		}
	}
}

// P12.2
func TestCompare(t *testing.T) {
	// Each one is above the one ahead.
	l := []api.Tuple{
		{},
		of("", "", "", "", "", "a"),
		of("", "", "", "", "a", ""),
		of("", "", "", "a", "", ""),
		of("", "", "a", "", "", ""),
		of("", "a", "", "", "", ""),
		of("A", "b", "b", "b", "b", "b"),
		of("a", "a", "a", "a", "a", ""),
		of("a", "a", "a", "a", "a", "\x00"),
		of("a", "a", "a", "a", "a", "A"),
		of("a", "a", "a", "a", "a", "a"),
		of("a", "a", "a", "a", "a", "a\x00"),
		of("a", "a", "a", "a", "a", "aa"),
		of("a", "a", "a", "a", "a", "z"),
		of("a", "a", "a", "a", "a", "é"),
		of("a", "a", "a", "a", "b", "a"),
		of("a", "a", "a", "b", "a", "a"),
		of("a", "a", "b", "a", "a", "a"),
		of("a", "b", "a", "a", "a", "a"),
		of("a", "z", "a", "a", "a", "a"),
		// The names stand one by one, whatever bytes they have.
		of("a\x00", "a", "a", "a", "a", "a"),
		of("a\x00b", "a", "a", "a", "a", ""),
		of("aa", "A", "A", "A", "A", ""),
		of("b", "a", "a", "a", "a", "a"),
		of("\xc3\xa9", "a", "a", "a", "a", "a"),
		of("\xef\xbf\xbf", "a", "a", "a", "a", "a"),
		of("\xf0\x90\x80\x80", "a", "a", "a", "a", "a"),
		of("\xff", "a", "a", "a", "a", "a"),
	}
	for i, a := range l {
		for k, b := range l {
			want := 0
			switch {
			case i < k:
				want = -1
			case i > k:
				want = 1
			}
			if got := Compare(a, b); got != want {
				t.Errorf("%q, %q: %d, want %d", a, b, got, want)
			}
		}
	}
}

// P12.2
func TestCompareOfOneKey(t *testing.T) {
	// Two tuples that aren't well formed may have one key, and are two.
	a, b := of("a\x00b", "c", "d", "e", "f", "g"), of("a", "b\x00c", "d", "e", "f", "g")
	if Key(a) != Key(b) {
		t.Fatalf("%q %q", Key(a), Key(b))
	}
	if Compare(a, b) != 1 || Compare(b, a) != -1 {
		t.Error(Compare(a, b), Compare(b, a))
	}
}

// docs is a schema with relations of the same name in several types, and one whose name is a key of the grammar in none.
const docs = `type user {}
type group { rel member (member, own, member): user, group#member; rel own (member, own, own): user; }
type doc {
	rel own (own, own, own): user;
	rel up (own, own, own): doc;
	rel read (own, own, own): user, group#member, doc#own is this | own;
	rel none (own, own, own):;
	rel whole (own, own, own): group;
}
type é { rel è (è, è, è): é, é#è; }`

// compiled is the table of a text that has one.
func compiled(t *testing.T, text string) table.Table {
	t.Helper()
	tab, e := table.Compile(text)
	if e != api.OK {
		t.Fatal(e)
	}
	return tab
}

// P12.3
func TestRight(t *testing.T) {
	tab := compiled(t, docs)
	for _, c := range []struct {
		text string
		want api.Errno
	}{
		{"group:1#member@user:a", api.OK},
		{"group:1#member@group:1#member", api.OK},
		{"group:1#own@user:a", api.OK},
		{"doc:1#up@doc:1", api.OK},
		{"doc:1#read@user:a", api.OK},
		{"doc:1#read@group:a#member", api.OK},
		{"doc:1#read@doc:2#own", api.OK},
		{"doc:1#whole@group:a", api.OK},
		{"é:é#è@é:a", api.OK},
		{"é:é#è@é:a#è", api.OK},
		// A Node of which there is no type, or no such relation of it.
		{"x:1#read@user:a", api.ErrName},
		{"user:1#read@user:a", api.ErrName},
		{"doc:1#member@user:a", api.ErrName},
		{"group:1#read@user:a", api.ErrName},
		{"doc:1#Own@user:a", api.ErrName},
		{"doc:1#type@user:a", api.ErrName},
		// A Who likewise, whether or not it may be there.
		{"doc:1#read@x:a", api.ErrName},
		{"doc:1#read@x:a#member", api.ErrName},
		{"doc:1#read@User:a", api.ErrName},
		{"doc:1#read@user:a#own", api.ErrName},
		{"doc:1#read@group:a#read", api.ErrName},
		{"doc:1#none@x:a", api.ErrName},
		{"doc:1#none@doc:a#member", api.ErrName},
		// What the schema has, but not there.
		{"doc:1#read@group:a", api.ErrType},
		{"doc:1#read@group:a#own", api.ErrType},
		{"doc:1#read@doc:1", api.ErrType},
		{"doc:1#read@doc:1#read", api.ErrType},
		{"doc:1#own@group:a#member", api.ErrType},
		{"doc:1#up@user:a", api.ErrType},
		{"doc:1#up@doc:1#up", api.ErrType},
		{"doc:1#none@user:a", api.ErrType},
		{"doc:1#none@doc:1#none", api.ErrType},
		{"doc:1#whole@group:a#member", api.ErrType},
		{"doc:1#whole@user:a", api.ErrType},
		{"group:1#member@group:1", api.ErrType},
		{"group:1#own@group:1#member", api.ErrType},
		{"é:é#è@user:a", api.ErrType},
	} {
		x, e := Parse(c.text)
		if e != api.OK {
			t.Fatal(c.text, e)
		}
		if got := Right(tab, x); got != c.want {
			t.Errorf("%s: %v, want %v", c.text, got, c.want)
		}
		if got := Right(table.Table{}, x); got != api.ErrName {
			t.Errorf("%s: %v of the empty table", c.text, got)
		}
	}
}

// P12.3
func TestRightOfWhatIsntWellFormed(t *testing.T) {
	tab := compiled(t, docs)
	right := []api.Tuple{of("doc", "1", "read", "user", "a", ""), of("doc", "1", "read", "group", "a", "member")}
	var l []api.Tuple
	for _, x := range right {
		for i := range 6 {
			for _, s := range append(badNames(), "") {
				six := namesOf(x)
				six[i] = s
				if i < 5 || s != "" {
					l = append(l, tupleOf(six))
				}
			}
		}
	}
	l = append(l, api.Tuple{}, of("doc", "1", "", "user", "a", ""), of("doc", "", "read", "doc", "1", ""), of("doc", "1", "read", "doc", "", ""), of("doc", "1", "none", "user", " ", ""))
	for _, x := range l {
		if got := Right(tab, x); got != api.ErrName {
			t.Errorf("%q: %v", x, got)
		}
	}
	// The Ids' longest ones are right, and no others.
	for n, want := range map[int]api.Errno{0: api.ErrName, 1: api.OK, 24: api.OK, 25: api.ErrName} {
		s := strings.Repeat("é", n)
		for _, x := range []api.Tuple{of("doc", s, "read", "user", "a", ""), of("doc", "1", "read", "user", s, ""), of("doc", "1", "read", "group", s, "member")} {
			if got := Right(tab, x); got != want {
				t.Errorf("%q: %v, want %v", x, got, want)
			}
		}
	}
}

// P12.1, P12.2
func TestWhatIsToldIsRead(t *testing.T) {
	for _, a := range goodNames() {
		for _, b := range append(goodNames(), "") {
			n := node(a, a, b)
			holdRead(t, Show(n), n, api.OK)
			if b != "" {
				x := api.Tuple{Node: n, Who: node(b, a, "")}
				holdParse(t, Text(x), x, api.OK)
				holdFrom(t, Key(x), x, true)
			}
			x := api.Tuple{Node: node(a, a, a), Who: n}
			holdParse(t, Text(x), x, api.OK)
			holdFrom(t, Key(x), x, true)
		}
	}
}

// P12.4
func TestKeysStandAsTuples(t *testing.T) {
	l := []string{"0", "A", "Z", "_", "a", "a0", "aa", "z", "\u00a1", "é", "éa", "\ufffd", "\U0010ffff"}
	if !slices.IsSorted(l) {
		t.Fatal(l)
	}
	var rising []api.Tuple
	for _, a := range l {
		for _, b := range l {
			rising = append(rising, of(a, b, "r", b, a, ""), of(a, b, "r", b, a, "r"), of(a, b, "r", b, a, "r0"))
		}
	}
	for i, a := range rising {
		for k, b := range rising {
			c := Compare(a, b)
			if want := strings.Compare(Key(a), Key(b)); c != want {
				t.Fatalf("%q, %q: %d, keys %d", a, b, c, want)
			}
			if (c < 0) != (i < k) || (c == 0) != (i == k) {
				t.Fatalf("%q, %q: %d", a, b, c)
			}
		}
	}
}
