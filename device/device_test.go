package device

import (
	"bytes"
	"math"
	"math/rand"
	"testing"

	"doorman/api"
)

// disk is a new one of so many sectors.
func disk(t *testing.T, sectors int) *Disk {
	t.Helper()
	d, e := New(sectors)
	if e != api.OK || d == nil {
		t.Fatalf("New(%d): %v, %v", sectors, d, e)
	}
	return d
}

// full is a sector that begins with those bytes.
func full(s string) []byte { return append([]byte(s), make([]byte, 64-len(s))...) }

// reads holds a sector against the text that it begins with.
func reads(t *testing.T, d *Disk, i int, want string) {
	t.Helper()
	if b, e := d.Read(i); e != api.OK || !bytes.Equal(b, full(want)) {
		t.Errorf("Read(%d): %q, %v, want %q", i, b, e, want)
	}
}

// tells holds an error against the one that is wanted.
func tells(t *testing.T, what string, got, want api.Errno) {
	t.Helper()
	if got != want {
		t.Errorf("%s: %v, want %v", what, got, want)
	}
}

// P3.1
func TestNew(t *testing.T) {
	for _, n := range []int{math.MinInt, -1, 0, 65537, math.MaxInt} {
		if d, e := New(n); d != nil || e != api.ErrArg {
			t.Errorf("New(%d): %v, %v", n, d, e)
		}
	}
	for _, n := range []int{1, 2, 100, 65536} {
		d := disk(t, n)
		if d.Len() != n || d.Dead() || d.Waiting() != 0 {
			t.Errorf("New(%d): %d, %v, %d", n, d.Len(), d.Dead(), d.Waiting())
		}
		for i := range n {
			reads(t, d, i, "")
		}
	}
}

// P3.1
func TestNewIsNotArmed(t *testing.T) {
	d := disk(t, 2)
	for i := range 1000 {
		tells(t, "Write", d.Write(i%2, []byte{1}), api.OK)
		tells(t, "Flush", d.Flush(), api.OK)
	}
	if d.Dead() {
		t.Error("a new disk died")
	}
}

// P3.1, P3.2, P3.3
func TestNil(t *testing.T) {
	var d *Disk
	d.Arm(1)
	b, e := d.Read(0)
	if b != nil {
		t.Errorf("Read: %v", b)
	}
	tells(t, "Read", e, api.ErrArg)
	tells(t, "Write", d.Write(0, nil), api.ErrArg)
	tells(t, "Flush", d.Flush(), api.ErrArg)
	if d.Len() != 0 || d.Dead() || d.Waiting() != 0 || d.Restart(nil) != nil || d.Restart([]bool{true}) != nil {
		t.Error("a nil disk has something")
	}
}

// P3.1, P3.2
func TestZeroDisk(t *testing.T) {
	d := &Disk{}
	_, e := d.Read(0)
	tells(t, "Read", e, api.ErrArg)
	tells(t, "Write", d.Write(0, nil), api.ErrArg)
	if d.Len() != 0 || d.Waiting() != 0 || d.Restart([]bool{true}).Len() != 0 {
		t.Error("a disk that New didn't make has something")
	}
}

// P3.2
func TestReadIsTheLastWrite(t *testing.T) {
	d := disk(t, 3)
	tells(t, "Write", d.Write(1, []byte("longer")), api.OK)
	reads(t, d, 1, "longer")
	tells(t, "Write", d.Write(1, []byte("ab")), api.OK)
	reads(t, d, 1, "ab")
	tells(t, "Flush", d.Flush(), api.OK)
	reads(t, d, 1, "ab")
	tells(t, "Write", d.Write(1, []byte("c")), api.OK)
	reads(t, d, 1, "c")
	tells(t, "Write", d.Write(1, nil), api.OK)
	reads(t, d, 1, "")
	reads(t, d, 0, "")
	reads(t, d, 2, "")
}

// P3.2
func TestSizes(t *testing.T) {
	d := disk(t, 1)
	for n := range 70 {
		b := bytes.Repeat([]byte{7}, n)
		want := api.OK
		if n > 64 {
			want = api.ErrArg
		}
		tells(t, "Write", d.Write(0, b), want)
		reads(t, d, 0, string(b[:min(n, 64)]))
	}
}

// P3.2
func TestPlaces(t *testing.T) {
	d := disk(t, 3)
	for _, i := range []int{math.MinInt, -1, 3, 4, math.MaxInt} {
		b, e := d.Read(i)
		if b != nil {
			t.Errorf("Read(%d): %v", i, b)
		}
		tells(t, "Read", e, api.ErrArg)
		tells(t, "Write", d.Write(i, []byte("a")), api.ErrArg)
	}
	if d.Waiting() != 0 {
		t.Error("a write that may not be waits")
	}
}

// P3.2
func TestNewMemory(t *testing.T) {
	d := disk(t, 1)
	b := []byte("abc")
	tells(t, "Write", d.Write(0, b), api.OK)
	b[0] = 'x'
	reads(t, d, 0, "abc")
	got, _ := d.Read(0)
	got[0] = 'x'
	reads(t, d, 0, "abc")
	tells(t, "Flush", d.Flush(), api.OK)
	reads(t, d, 0, "abc")
	long := append(make([]byte, 0, 100), "abc"...)
	tells(t, "Write", d.Write(0, long), api.OK)
	if !bytes.Equal(long[:64], full("abc")) {
		t.Error("what is handed in is changed")
	}
}

// P3.2
func TestArmedWriteAndFlush(t *testing.T) {
	for n := 1; n <= 6; n++ {
		d := disk(t, 2)
		d.Arm(n)
		for i := 1; i < n; i++ {
			if i%2 == 1 {
				tells(t, "Write", d.Write(0, []byte{byte(i)}), api.OK)
			} else {
				tells(t, "Flush", d.Flush(), api.OK)
			}
			if d.Dead() {
				t.Errorf("armed with %d, dead at %d", n, i)
			}
		}
		waits := d.Waiting()
		if n%2 == 1 {
			tells(t, "the Write it dies at", d.Write(1, []byte("a")), api.ErrDead)
		} else {
			tells(t, "the Flush it dies at", d.Flush(), api.ErrDead)
		}
		if !d.Dead() || d.Waiting() != waits {
			t.Errorf("armed with %d: %v, %d wait", n, d.Dead(), d.Waiting())
		}
		reads(t, d.Restart([]bool{true, true, true}), 1, "")
	}
}

// P3.2
func TestDeadTellsSo(t *testing.T) {
	d := disk(t, 2)
	tells(t, "Write", d.Write(0, []byte("a")), api.OK)
	d.Arm(1)
	tells(t, "Flush", d.Flush(), api.ErrDead)
	for _, n := range []int{0, -1, 5} {
		d.Arm(n)
		b, e := d.Read(0)
		if b != nil {
			t.Errorf("Read: %v", b)
		}
		tells(t, "Read", e, api.ErrDead)
		tells(t, "Write", d.Write(0, []byte("b")), api.ErrDead)
		tells(t, "Flush", d.Flush(), api.ErrDead)
		_, e = d.Read(2)
		tells(t, "Read of no place", e, api.ErrArg)
		tells(t, "Write to no place", d.Write(-1, nil), api.ErrArg)
		tells(t, "Write of too much", d.Write(0, make([]byte, 65)), api.ErrArg)
		if !d.Dead() || d.Waiting() != 1 || d.Len() != 2 {
			t.Error("a dead disk changed")
		}
	}
	reads(t, d.Restart(nil), 0, "")
	reads(t, d.Restart([]bool{true}), 0, "a")
}

// P3.2
func TestArmCountsWhatMayBe(t *testing.T) {
	d := disk(t, 1)
	d.Arm(2)
	for range 5 {
		tells(t, "Write", d.Write(1, nil), api.ErrArg)
		tells(t, "Write", d.Write(0, make([]byte, 65)), api.ErrArg)
		reads(t, d, 0, "")
	}
	tells(t, "Write", d.Write(0, nil), api.OK)
	tells(t, "Write", d.Write(1, nil), api.ErrArg)
	if d.Dead() {
		t.Error("dead too early")
	}
	tells(t, "Write", d.Write(0, nil), api.ErrDead)
}

// P3.2
func TestArmAgain(t *testing.T) {
	d := disk(t, 1)
	for _, n := range []int{0, -1, math.MinInt} {
		d.Arm(1)
		d.Arm(n)
		tells(t, "Write, disarmed", d.Write(0, nil), api.OK)
	}
	d.Arm(1)
	d.Arm(3)
	tells(t, "Write", d.Write(0, nil), api.OK)
	tells(t, "Write", d.Write(0, nil), api.OK)
	d.Arm(2)
	tells(t, "Flush", d.Flush(), api.OK)
	tells(t, "Flush", d.Flush(), api.ErrDead)
}

// P3.3
func TestRestart(t *testing.T) {
	d := disk(t, 2)
	tells(t, "Write", d.Write(0, []byte("first")), api.OK)
	tells(t, "Flush", d.Flush(), api.OK)
	tells(t, "Write", d.Write(0, []byte("b")), api.OK)
	tells(t, "Write", d.Write(1, []byte("c")), api.OK)
	tells(t, "Write", d.Write(0, []byte("d")), api.OK)
	for _, c := range []struct {
		keep []bool
		want [2]string
	}{
		{nil, [2]string{"first", ""}},
		{[]bool{false, true}, [2]string{"first", "c"}},
		{[]bool{true}, [2]string{"b", ""}},
		{[]bool{true, true, true}, [2]string{"d", "c"}},
		{[]bool{false, false, true}, [2]string{"d", ""}},
		{[]bool{true, false, false, true, true}, [2]string{"b", ""}},
	} {
		x := d.Restart(c.keep)
		if x.Len() != 2 || x.Dead() || x.Waiting() != 0 {
			t.Errorf("Restart(%v): %d, %v, %d", c.keep, x.Len(), x.Dead(), x.Waiting())
		}
		for i, want := range c.want {
			reads(t, x, i, want)
			reads(t, x.Restart(nil), i, want)
		}
	}
	if d.Waiting() != 3 {
		t.Error("the old one changed")
	}
	reads(t, d, 0, "d")
}

// P3.3
func TestRestartIsAnother(t *testing.T) {
	d := disk(t, 2)
	tells(t, "Write", d.Write(0, []byte("a")), api.OK)
	d.Arm(2)
	x := d.Restart([]bool{true})
	for range 5 {
		tells(t, "Write to the new one", x.Write(0, []byte("new")), api.OK)
		tells(t, "Flush of the new one", x.Flush(), api.OK)
	}
	reads(t, d, 0, "a")
	tells(t, "Write", d.Write(1, []byte("old")), api.OK)
	tells(t, "Flush", d.Flush(), api.ErrDead)
	if x.Dead() {
		t.Error("the new one died with the old one")
	}
	reads(t, x, 0, "new")
	reads(t, x, 1, "")
	tells(t, "Write that waits", x.Write(0, []byte("waits")), api.OK)
	reads(t, x, 0, "waits")
	reads(t, x.Restart(nil), 0, "new")
	y := d.Restart(nil)
	tells(t, "Write that waits", y.Write(0, []byte("waits")), api.OK)
	reads(t, y.Restart(nil), 0, "")
	reads(t, d.Restart([]bool{true, true}), 0, "a")
	reads(t, d.Restart([]bool{true, true}), 1, "old")
}

// paper is a disk told from all that was done to it: the writes in order, and how many of them were flushed.
type paper struct {
	places  []int
	bytes   []byte
	flushed int
}

// at is the byte that a sector is full of, where of the writes not flushed those of keep are there.
func (p *paper) at(i int, keep []bool) byte {
	var b byte
	for n, place := range p.places {
		if place == i && (n < p.flushed || keep[n-p.flushed]) {
			b = p.bytes[n]
		}
	}
	return b
}

// same holds a disk against the paper.
func (p *paper) same(t *testing.T, d *Disk, keep []bool) {
	t.Helper()
	for i := range d.Len() {
		if b, e := d.Read(i); e != api.OK || !bytes.Equal(b, bytes.Repeat([]byte{p.at(i, keep)}, 64)) {
			t.Fatalf("Read(%d): %v, %v, want %d", i, b, e, p.at(i, keep))
		}
	}
}

// P3.2, P3.3, P3.4
func TestAgainstPaper(t *testing.T) {
	r := rand.New(rand.NewSource(3))
	for range 300 {
		d := disk(t, 1+r.Intn(5))
		p := &paper{}
		for range r.Intn(40) {
			if r.Intn(5) == 0 {
				tells(t, "Flush", d.Flush(), api.OK)
				p.flushed = len(p.places)
				continue
			}
			i, b := r.Intn(d.Len()), byte(r.Intn(256))
			tells(t, "Write", d.Write(i, bytes.Repeat([]byte{b}, 64)), api.OK)
			p.places, p.bytes = append(p.places, i), append(p.bytes, b)
		}
		waits := len(p.places) - p.flushed
		if d.Waiting() != waits {
			t.Fatalf("%d wait, want %d", d.Waiting(), waits)
		}
		all, some := make([]bool, waits), make([]bool, waits)
		for n := range waits {
			all[n], some[n] = true, r.Intn(2) == 0
		}
		p.same(t, d, all)
		p.same(t, d.Restart(some), some)
		p.same(t, d.Restart(nil), make([]bool, waits))
		p.same(t, d, all)
	}
}

// P3.4
func TestFlushedStays(t *testing.T) {
	d := disk(t, 4)
	for i := range 4 {
		tells(t, "Write", d.Write(i, []byte{byte('a' + i)}), api.OK)
	}
	tells(t, "Flush", d.Flush(), api.OK)
	d.Arm(1)
	tells(t, "Write", d.Write(2, []byte("z")), api.ErrDead)
	for _, keep := range [][]bool{nil, {true}, {false, true}, {true, true, true, true}} {
		x := d.Restart(keep)
		for i := range 4 {
			reads(t, x, i, string(rune('a'+i)))
		}
	}
}
