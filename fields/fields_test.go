package fields

import (
	"bytes"
	"math"
	"slices"
	"strings"
	"testing"

	"doorman/api"
)

// known are numbers and the one row of bytes that each has.
func known() map[uint64][]byte {
	return map[uint64][]byte{
		0:                      {0},
		1:                      {1, 1},
		255:                    {1, 255},
		256:                    {2, 1, 0},
		300:                    {2, 1, 44},
		65535:                  {2, 255, 255},
		65536:                  {3, 1, 0, 0},
		1<<24 - 1:              {3, 255, 255, 255},
		1 << 24:                {4, 1, 0, 0, 0},
		1<<32 - 1:              {4, 255, 255, 255, 255},
		1 << 32:                {5, 1, 0, 0, 0, 0},
		1 << 40:                {6, 1, 0, 0, 0, 0, 0},
		1 << 48:                {7, 1, 0, 0, 0, 0, 0, 0},
		1<<56 - 1:              {7, 255, 255, 255, 255, 255, 255, 255},
		1 << 56:                {8, 1, 0, 0, 0, 0, 0, 0, 0},
		0x0102030405060708:     {8, 1, 2, 3, 4, 5, 6, 7, 8},
		1 << 63:                {8, 128, 0, 0, 0, 0, 0, 0, 0},
		uint64(math.MaxUint64): {8, 255, 255, 255, 255, 255, 255, 255, 255},
	}
}

// P1.1
func TestPutTellsTheGreatestPartFirst(t *testing.T) {
	for n, want := range known() {
		if got := Put(n); !bytes.Equal(got, want) {
			t.Errorf("Put(%d): %v, want %v", n, got, want)
		}
	}
	if got := Put(); len(got) != 0 {
		t.Errorf("Put of nothing: %v", got)
	}
	if got, want := Put(300, 0, 7), []byte{2, 1, 44, 0, 1, 7}; !bytes.Equal(got, want) {
		t.Errorf("Put of several: %v, want %v", got, want)
	}
}

// P1.1
func TestTextsAndListsAreNumbersAndBytes(t *testing.T) {
	long := strings.Repeat("x", 300)
	for _, c := range []struct {
		what      string
		got, want []byte
	}{
		{"no texts", Texts(), nil},
		{"an empty text", Texts(""), []byte{0}},
		{"texts", Texts("ab", "", "c"), []byte{1, 2, 'a', 'b', 0, 1, 1, 'c'}},
		{"bytes that are no runes", Texts("\xff\x00"), []byte{1, 2, 255, 0}},
		{"a rune of two bytes", Texts("é"), []byte{1, 2, 0xc3, 0xa9}},
		{"a long text", Texts(long), append([]byte{2, 1, 44}, long...)},
		{"a nil list", Lists(nil), []byte{0}},
		{"an empty list", Lists([]string{}), []byte{0}},
		{"a list of an empty text", Lists([]string{""}), []byte{1, 1, 0}},
		{"a list", Lists([]string{"ab", "c"}), []byte{1, 2, 1, 2, 'a', 'b', 1, 1, 'c'}},
		{"a list of 256", Lists(make([]string, 256)), append([]byte{2, 1, 0}, make([]byte, 256)...)},
	} {
		if !bytes.Equal(c.got, c.want) {
			t.Errorf("%s: %v, want %v", c.what, c.got, c.want)
		}
	}
}

// P1.1
func TestTakeTellsNumberAndSize(t *testing.T) {
	for want, b := range known() {
		for _, tail := range [][]byte{nil, {0}, {9, 9}} {
			n, size, e := Take(append(slices.Clone(b), tail...))
			if n != want || size != len(b) || e != api.OK {
				t.Errorf("Take of %v and %v: %d, %d, %v", b, tail, n, size, e)
			}
		}
	}
}

// P1.1
func TestTakeRefuses(t *testing.T) {
	for _, c := range []struct {
		b    []byte
		want api.Errno
	}{
		{nil, api.ErrShort},
		{[]byte{}, api.ErrShort},
		{[]byte{9}, api.ErrForm},
		{[]byte{9, 1, 1, 1, 1, 1, 1, 1, 1, 1}, api.ErrForm},
		{[]byte{255}, api.ErrForm},
		{[]byte{1}, api.ErrShort},
		{[]byte{2, 1}, api.ErrShort},
		{[]byte{2, 0}, api.ErrShort}, // too short comes ahead of a 0 ahead
		{[]byte{8, 1, 2, 3, 4, 5, 6, 7}, api.ErrShort},
		{[]byte{1, 0}, api.ErrForm},
		{[]byte{1, 0, 1}, api.ErrForm},
		{[]byte{2, 0, 1}, api.ErrForm},
		{[]byte{8, 0, 1, 1, 1, 1, 1, 1, 1}, api.ErrForm},
	} {
		if n, size, e := Take(c.b); n != 0 || size != 0 || e != c.want {
			t.Errorf("Take(%v): %d, %d, %v, want 0, 0, %v", c.b, n, size, e, c.want)
		}
	}
}

// P1.2
func TestReaderReadsInOrder(t *testing.T) {
	b := slices.Concat(Put(300), Texts("é", ""), Lists([]string{"a", "", "bc"}), Lists(nil), Put(0))
	r := Open(b)
	if e := r.End(); e != api.ErrLeft || r.Err() != api.OK || r.Left() != len(b) {
		t.Errorf("at the beginning: %v, %v, %d", e, r.Err(), r.Left())
	}
	if n := r.Num(); n != 300 || r.Left() != len(b)-3 {
		t.Errorf("Num: %d, %d left", n, r.Left())
	}
	if s := r.Text(); s != "é" || r.Left() != len(b)-7 {
		t.Errorf("Text: %q, %d left", s, r.Left())
	}
	if s := r.Text(); s != "" || r.Left() != len(b)-8 {
		t.Errorf("Text: %q, %d left", s, r.Left())
	}
	if l := r.List(3); !slices.Equal(l, []string{"a", "", "bc"}) || r.Left() != 2 {
		t.Errorf("List: %q, %d left", l, r.Left())
	}
	if l := r.List(0); len(l) != 0 || r.Left() != 1 {
		t.Errorf("List: %q, %d left", l, r.Left())
	}
	if e := r.End(); e != api.ErrLeft || r.Err() != api.OK {
		t.Errorf("ErrLeft stays: %v, %v", e, r.Err())
	}
	if n := r.Num(); n != 0 || r.Left() != 0 || r.Err() != api.OK || r.End() != api.OK {
		t.Errorf("the last one: %d, %d left, %v, %v", n, r.Left(), r.Err(), r.End())
	}
}

// P1.2
func TestReaderTellsErrors(t *testing.T) {
	num := func(r *Reader) bool { return r.Num() == 0 }
	text := func(r *Reader) bool { return r.Text() == "" }
	list := func(most int) func(*Reader) bool {
		return func(r *Reader) bool { return len(r.List(most)) == 0 }
	}
	for _, c := range []struct {
		what string
		b    []byte
		call func(*Reader) bool
		want api.Errno
		left int
	}{
		{"Num of nothing", nil, num, api.ErrShort, 0},
		{"Num above 8", []byte{9, 1}, num, api.ErrForm, 2},
		{"Num too short", []byte{2, 1}, num, api.ErrShort, 2},
		{"Num with a 0 ahead", []byte{1, 0, 5}, num, api.ErrForm, 3},
		{"Text of nothing", []byte{}, text, api.ErrShort, 0},
		{"Text whose number is none", []byte{1, 0, 'a'}, text, api.ErrForm, 3},
		{"Text too short", []byte{1, 3, 'a', 'b'}, text, api.ErrShort, 2},
		{"Text of all numbers' greatest", append(Put(math.MaxUint64), 'a'), text, api.ErrShort, 1},
		{"Text of 2^63", append(Put(1<<63), 'a'), text, api.ErrShort, 1},
		{"List of nothing", nil, list(5), api.ErrShort, 0},
		{"List whose number is none", []byte{9}, list(5), api.ErrForm, 1},
		{"List too long", Lists([]string{"a", "b"}), list(1), api.ErrLong, 6},
		{"List of one, of none at most", Lists([]string{"a"}), list(0), api.ErrLong, 3},
		{"List of one, of less than none at most", Lists([]string{"a"}), list(-1), api.ErrLong, 3},
		{"List of one, of far less than none", Lists([]string{"a"}), list(math.MinInt), api.ErrLong, 3},
		{"List too long, and too short", []byte{1, 9}, list(8), api.ErrLong, 0},
		{"List of all numbers' greatest", Put(math.MaxUint64), list(math.MaxInt), api.ErrLong, 0},
		{"List that promises much", append(Put(math.MaxInt), 0, 0), list(math.MaxInt), api.ErrShort, 0},
		{"List whose second text is too short", []byte{1, 2, 1, 1, 'a', 1, 3, 'b'}, list(2), api.ErrShort, 1},
		{"List whose second text's number is none", []byte{1, 2, 1, 1, 'a', 1, 0}, list(2), api.ErrForm, 2},
	} {
		r := Open(c.b)
		if !c.call(r) {
			t.Errorf("%s: something is told", c.what)
		}
		if r.Err() != c.want || r.End() != c.want || r.Left() != c.left {
			t.Errorf("%s: %v, %v, %d left, want %v, %d", c.what, r.Err(), r.End(), r.Left(), c.want, c.left)
		}
	}
}

// P1.2
func TestListOfBelowNoneMayBeEmpty(t *testing.T) {
	r := Open(Lists(nil))
	if l := r.List(-1); len(l) != 0 || r.Err() != api.OK || r.Left() != 0 {
		t.Errorf("%q, %v, %d left", l, r.Err(), r.Left())
	}
}

// P1.2
func TestFirstErrorStays(t *testing.T) {
	// Behind the text that is too short there are bytes that would be a number, a text, a list.
	for _, b := range [][]byte{{1, 9, 1, 1, 'a'}, {1, 9, 0, 0}} {
		r := Open(b)
		r.Text()
		left := len(b) - 2
		for range 3 {
			if n, s, l := r.Num(), r.Text(), r.List(5); n != 0 || s != "" || len(l) != 0 {
				t.Errorf("behind an error: %d, %q, %q", n, s, l)
			}
			if r.Err() != api.ErrShort || r.End() != api.ErrShort || r.Left() != left {
				t.Errorf("behind an error: %v, %v, %d left", r.Err(), r.End(), r.Left())
			}
		}
	}
	r := Open([]byte{9})
	r.Num()
	r.List(-1)
	if r.Err() != api.ErrForm {
		t.Errorf("another error in place of the first one: %v", r.Err())
	}
}

// P1.2
func TestNilReader(t *testing.T) {
	var r *Reader
	if n, s, l := r.Num(), r.Text(), r.List(5); n != 0 || s != "" || len(l) != 0 {
		t.Errorf("%d, %q, %q", n, s, l)
	}
	if r.Left() != 0 || r.Err() != api.ErrShort || r.End() != api.ErrShort {
		t.Errorf("%d left, %v, %v", r.Left(), r.Err(), r.End())
	}
}

// P1.2
func TestReaderOfNothing(t *testing.T) {
	r := Open(nil)
	if r == nil || r.Left() != 0 || r.Err() != api.OK || r.End() != api.OK {
		t.Errorf("%v", r)
	}
}

// P1.2, and rule 3: nothing that is handed in is kept or changed.
func TestMemoryIsNew(t *testing.T) {
	b := Texts("ab", "cd")
	same := slices.Clone(b)
	r := Open(b)
	first := r.Text()
	if !bytes.Equal(b, same) {
		t.Errorf("what is handed in was changed: %v", b)
	}
	clear(b)
	if second := r.Text(); first != "ab" || second != "cd" || r.End() != api.OK {
		t.Errorf("a reader shares what it reads: %q, %q, %v", first, second, r.End())
	}
	numbers, texts := []uint64{3, 300}, []string{"a", ""}
	Put(numbers...)
	Texts(texts...)
	Lists(texts)
	if !slices.Equal(numbers, []uint64{3, 300}) || !slices.Equal(texts, []string{"a", ""}) {
		t.Errorf("what is handed in was changed: %v, %q", numbers, texts)
	}
}

// P1.3
func TestWhatIsPutIsRead(t *testing.T) {
	next := uint64(1)
	for i := range 2000 {
		next = next*6364136223846793005 + 1442695040888963407
		n := next >> (i % 64)
		texts := []string{strings.Repeat("\xc3", i%5), strings.Repeat("a", i%300)}
		r := Open(slices.Concat(Put(n, ^n), Texts(texts...), Lists(texts)))
		if a, b := r.Num(), r.Num(); a != n || b != ^n {
			t.Fatalf("%d, %d, want %d, %d", a, b, n, ^n)
		}
		if a, b := r.Text(), r.Text(); a != texts[0] || b != texts[1] {
			t.Fatalf("%q, %q, want %q", a, b, texts)
		}
		if l := r.List(2); !slices.Equal(l, texts) || r.End() != api.OK {
			t.Fatalf("%q, want %q: %v", l, texts, r.End())
		}
	}
}

// P1.3
func TestANumberHasOneRowOfBytes(t *testing.T) {
	for first := range 256 {
		for rest := range 1 << 16 {
			b := []byte{byte(first), byte(rest >> 8), byte(rest)}
			n, size, e := Take(b)
			if e == api.OK && !bytes.Equal(Put(n), b[:size]) {
				t.Fatalf("%v is taken as %d, whose bytes are %v", b, n, Put(n))
			}
		}
	}
	for n, b := range known() {
		for i := range b {
			other := slices.Clone(b)
			other[i]++
			m, size, e := Take(other)
			if e == api.OK && (m == n || !bytes.Equal(Put(m), other[:size])) {
				t.Errorf("%v is taken as %d", other, m)
			}
		}
	}
}
