package journal

import (
	"bytes"
	"math"
	"math/rand"
	"testing"

	"doorman/api"
	"doorman/device"
)

// disk is a new one of so many sectors.
func disk(t *testing.T, sectors int) *device.Disk {
	t.Helper()
	d, e := device.New(sectors)
	if e != api.OK {
		t.Fatal(e)
	}
	return d
}

// open is the log in those sectors.
func open(t *testing.T, d *device.Disk, from, to int, epoch uint64) *Log {
	t.Helper()
	l, e := Open(d, from, to, epoch)
	if e != api.OK || l == nil {
		t.Fatalf("Open(%d, %d, %d): %v, %v", from, to, epoch, l, e)
	}
	return l
}

// put writes a sector that stays.
func put(t *testing.T, d *device.Disk, i int, b ...byte) {
	t.Helper()
	if e := d.Write(i, b); e != api.OK {
		t.Fatal(e)
	}
	if e := d.Flush(); e != api.OK {
		t.Fatal(e)
	}
}

// tells holds an error against the one that is wanted.
func tells(t *testing.T, what string, got, want api.Errno) {
	t.Helper()
	if got != want {
		t.Errorf("%s: %v, want %v", what, got, want)
	}
}

// holds holds a log's records and its room against those that are wanted.
func holds(t *testing.T, what string, l *Log, room int, want ...[]byte) {
	t.Helper()
	same(t, what, l.Records(), want)
	if l.Room() != room {
		t.Errorf("%s: room for %d, want %d", what, l.Room(), room)
	}
}

// same holds records against those that are wanted.
func same(t *testing.T, what string, got, want [][]byte) {
	t.Helper()
	if len(got) != len(want) {
		t.Errorf("%s: %d records, want %d", what, len(got), len(want))
		return
	}
	for i := range want {
		if !bytes.Equal(got[i], want[i]) {
			t.Errorf("%s: record %d is %q, want %q", what, i, got[i], want[i])
		}
	}
}

// image is all sectors of a disk that isn't dead.
func image(t *testing.T, d *device.Disk) [][]byte {
	t.Helper()
	var out [][]byte
	for i := range d.Len() {
		b, e := d.Read(i)
		if e != api.OK {
			t.Fatal(e)
		}
		out = append(out, b)
	}
	return out
}

// filled is so many bytes, none of them 0, none like the next.
func filled(n int) []byte {
	b := make([]byte, n)
	for i := range b {
		b[i] = byte(1 + i%251)
	}
	return b
}

// sector is a sector that begins with those bytes.
func sector(b ...byte) []byte { return append(b, make([]byte, 64-len(b))...) }

// P4.1
func TestSize(t *testing.T) {
	for n, want := range map[int]int{
		math.MinInt: 1, -64: 1, -1: 1, 0: 1, 1: 2, 62: 2, 63: 2, 64: 3, 126: 3, 127: 4,
		4032: 65, 4033: 66, 4095: 66, 4096: 67, 4097: 67, 63 * 1000: 1001, 63*1000 + 1: 1002, math.MaxInt32: 34087044,
	} {
		if got := Size(n); got != want {
			t.Errorf("Size(%d): %d, want %d", n, got, want)
		}
	}
	if Size(math.MaxInt) < 1 {
		t.Error("Size of the greatest number is below 1")
	}
}

// P4.1
func TestOpenRefuses(t *testing.T) {
	d := disk(t, 9)
	for _, c := range []struct {
		d        *device.Disk
		from, to int
	}{
		{nil, 0, 0}, {nil, 0, 9}, {d, -1, 3}, {d, math.MinInt, 3}, {d, 4, 3}, {d, 1, 0}, {d, 0, -1}, {d, 0, 10}, {d, 9, 10},
		{d, 10, 10}, {d, 0, math.MaxInt}, {d, math.MaxInt, math.MaxInt}, {d, math.MinInt, math.MaxInt}, {d, -1, -1},
	} {
		if l, e := Open(c.d, c.from, c.to, 1); l != nil || e != api.ErrArg {
			t.Errorf("Open(%v, %d, %d): %v, %v", c.d != nil, c.from, c.to, l, e)
		}
	}
}

// P4.2, P4.3: a new log has no records, whatever stands there, and its first one is written over that.
func TestNewHasNoRecords(t *testing.T) {
	d := disk(t, 10)
	old := open(t, d, 2, 9, 5)
	tells(t, "Append", old.Append([]byte("old")), api.OK)
	tells(t, "Append", old.Append(nil), api.OK)
	was := image(t, d)
	l, e := New(d, 2, 9, 5)
	tells(t, "New", e, api.OK)
	holds(t, "a new one", l, 7)
	same(t, "the disk", image(t, d), was)
	tells(t, "Append", l.Append(filled(100)), api.OK)
	holds(t, "behind the first", l, 4, filled(100))
	holds(t, "opened", open(t, d.Restart(nil), 2, 9, 5), 4, filled(100))
	d.Arm(1)
	tells(t, "Flush", d.Flush(), api.ErrDead)
	l, e = New(d, 2, 9, 5)
	tells(t, "New of a dead one, which reads nothing", e, api.OK)
	tells(t, "Append", l.Append(nil), api.ErrDead)
	holds(t, "behind it", l, 7)
}

// P4.1
func TestNewRefuses(t *testing.T) {
	for _, c := range []struct {
		d        *device.Disk
		from, to int
	}{
		{nil, 0, 0},
		{disk(t, 9), -1, 3},
		{disk(t, 9), math.MinInt, math.MaxInt},
		{disk(t, 9), 4, 3},
		{disk(t, 9), 0, 10},
		{disk(t, 9), 10, 10},
		{new(device.Disk), 0, 1},
	} {
		if l, e := New(c.d, c.from, c.to, 1); l != nil || e != api.ErrArg {
			t.Errorf("New(%v, %d, %d): %v, %v", c.d, c.from, c.to, l, e)
		}
	}
}

// P4.1
func TestOpenTellsTheErrorOfARead(t *testing.T) {
	d := disk(t, 9)
	l := open(t, d, 1, 9, 5)
	tells(t, "Append", l.Append([]byte("x")), api.OK)
	d.Arm(1)
	tells(t, "Flush", d.Flush(), api.ErrDead)
	if l, e := Open(d, 1, 9, 5); l != nil || e != api.ErrDead {
		t.Errorf("Open: %v, %v", l, e)
	}
	if l, e := Open(d, 1, 10, 5); l != nil || e != api.ErrArg {
		t.Errorf("Open beyond the end: %v, %v", l, e)
	}
	// Where there is nothing to read, no Read tells an error.
	holds(t, "of no sectors", open(t, d, 3, 3, 5), 0)
}

// P4.1, P4.2
func TestOpenOfNothing(t *testing.T) {
	d := disk(t, 9)
	holds(t, "all", open(t, d, 0, 9, 5), 9)
	holds(t, "some", open(t, d, 2, 7, 5), 5)
	holds(t, "none at the beginning", open(t, d, 0, 0, 5), 0)
	holds(t, "none at the end", open(t, d, 9, 9, 5), 0)
	holds(t, "one", open(t, d, 8, 9, math.MaxUint64), 1)
}

// P4.1
func TestOpenReadsWhatIsThere(t *testing.T) {
	d := disk(t, 9)
	long := filled(64)
	put(t, d, 1, 1, 1, 5, 0, 1, 64)
	put(t, d, 2, append([]byte{0}, long[:63]...)...)
	put(t, d, 3, 0, long[63], 99, 99) // noughts needn't be behind
	put(t, d, 4, 1, 1, 5, 1, 1, 0)
	put(t, d, 5, 1, 1, 5, 1, 2, 1, 2, 77, 88) // what is behind plays no part
	put(t, d, 6, 0, 'a', 'b')
	for _, c := range []struct {
		what string
		to   int
		want [][]byte
	}{
		{"up to the disk's end", 9, [][]byte{long, {}, []byte("ab")}},
		{"up to the last one's end", 7, [][]byte{long, {}, []byte("ab")}},
		{"up to within the last one", 6, [][]byte{long, {}}},
		{"up to the second one's end", 5, [][]byte{long, {}}},
		{"up to the first one's end", 4, [][]byte{long}},
		{"up to within the first one", 3, nil},
		{"up to the first one's head", 2, nil},
	} {
		used := 0
		for _, b := range c.want {
			used += 1 + (len(b)+62)/63
		}
		holds(t, c.what, open(t, d, 1, c.to, 5), c.to-1-used, c.want...)
	}
}

// P4.1
func TestOpenHoldsEachPartOfAHead(t *testing.T) {
	for _, c := range []struct {
		what string
		head []byte
		want int // how many records are read
	}{
		{"the head itself", []byte{1, 1, 5, 1, 1, 1, 2}, 2},
		{"with bytes behind", append([]byte{1, 1, 5, 1, 1, 1, 2}, filled(57)...), 2},
		{"of no bytes", []byte{1, 1, 5, 1, 1, 0}, 2},
		{"a part's sign", []byte{0, 1, 5, 1, 1, 1, 2}, 1},
		{"another sign", []byte{2, 1, 5, 1, 1, 1, 2}, 1},
		{"a greater sign", []byte{255, 1, 5, 1, 1, 1, 2}, 1},
		{"another epoch", []byte{1, 1, 4, 1, 1, 1, 2}, 1},
		{"a greater epoch", []byte{1, 2, 1, 5, 1, 1, 1, 2}, 1},
		{"the number ahead", []byte{1, 1, 5, 0, 1, 2}, 1},
		{"the number behind", []byte{1, 1, 5, 1, 2, 1, 2}, 1},
		{"a number with noughts ahead", []byte{1, 1, 5, 2, 0, 1, 1, 2}, 1},
		{"an epoch with noughts ahead", []byte{1, 2, 0, 5, 1, 1, 1, 2}, 1},
		{"a size with noughts ahead", []byte{1, 1, 5, 1, 1, 2, 0, 2}, 1},
		{"a size that is no number", []byte{1, 1, 5, 1, 1, 9}, 1},
		{"a size beyond the room", []byte{1, 1, 5, 1, 1, 2, 1, 0}, 1},
		{"a size of 4097", []byte{1, 1, 5, 1, 1, 2, 16, 1}, 1},
		{"the greatest size", []byte{1, 1, 5, 1, 1, 8, 255, 255, 255, 255, 255, 255, 255, 255}, 1},
		{"a size that is as an int below 0", []byte{1, 1, 5, 1, 1, 8, 128, 0, 0, 0, 0, 0, 0, 0}, 1},
		{"a size that is as 32 bits 2", []byte{1, 1, 5, 1, 1, 5, 1, 0, 0, 0, 2}, 1},
		{"noughts", nil, 1},
	} {
		d := disk(t, 6)
		put(t, d, 0, 1, 1, 5, 0, 1, 1)
		put(t, d, 1, 0, 'a')
		put(t, d, 2, c.head...)
		put(t, d, 3, 0, 'b', 'c')
		if got := open(t, d, 0, 6, 5).Records(); len(got) != c.want {
			t.Errorf("%s: %q", c.what, got)
		}
	}
}

// P4.1
func TestOpenTakes4096BytesAtMost(t *testing.T) {
	for size, want := range map[int]int{4096: 1, 4097: 0} {
		d := disk(t, 100)
		put(t, d, 0, 1, 0, 0, 2, byte(size>>8), byte(size))
		for i := 1; i < 68; i++ {
			put(t, d, i, append([]byte{0}, filled(63)...)...)
		}
		if got := open(t, d, 0, 100, 0).Records(); len(got) != want {
			t.Errorf("of %d bytes: %d records", size, len(got))
		}
	}
}

// P4.1
func TestOpenHoldsTheFirstByteOfAllOtherSectors(t *testing.T) {
	b := filled(150)
	for bad := range 4 {
		for _, sign := range []byte{1, 2, 255} {
			d := disk(t, 9)
			l := open(t, d, 0, 9, 5)
			tells(t, "Append", l.Append([]byte("a")), api.OK)
			tells(t, "Append", l.Append(b), api.OK)
			tells(t, "Append", l.Append([]byte("c")), api.OK)
			want, room := [][]byte{[]byte("a"), b, []byte("c")}, 1
			if bad > 0 {
				s, _ := d.Read(2 + bad)
				s[0] = sign
				put(t, d, 2+bad, s...)
				want, room = want[:1], 7
			}
			holds(t, "with another first byte", open(t, d, 0, 9, 5), room, want...)
		}
	}
}

// P4.1
func TestOpenStopsAtTheFirstThatIsNone(t *testing.T) {
	d := disk(t, 12)
	l := open(t, d, 0, 12, 5)
	for _, s := range []string{"a", "b", "c"} {
		tells(t, "Append", l.Append([]byte(s)), api.OK)
	}
	put(t, d, 2)
	holds(t, "the second one's head is gone", open(t, d, 0, 12, 5), 10, []byte("a"))
	put(t, d, 0)
	holds(t, "the first one's head is gone", open(t, d, 0, 12, 5), 12)
}

// P4.1
func TestOpenWritesNothing(t *testing.T) {
	d := disk(t, 9)
	tells(t, "Append", open(t, d, 1, 9, 5).Append(filled(100)), api.OK)
	tells(t, "Write", d.Write(8, []byte{9}), api.OK)
	was := image(t, d)
	d.Arm(1)
	for epoch := range uint64(7) {
		open(t, d, 1, 9, epoch)
	}
	if d.Waiting() != 1 {
		t.Errorf("%d writes wait", d.Waiting())
	}
	same(t, "the disk", image(t, d), was)
	tells(t, "Flush", d.Flush(), api.ErrDead)
}

// P4.2
func TestRecordsAreInNewMemory(t *testing.T) {
	d := disk(t, 20)
	l := open(t, d, 0, 20, 5)
	b := []byte("abc")
	tells(t, "Append", l.Append(b), api.OK)
	tells(t, "Append", l.Append([]byte("de")), api.OK)
	if string(b) != "abc" {
		t.Errorf("Append changed what it was handed: %q", b)
	}
	b[0] = 'X'
	for _, l := range []*Log{l, open(t, d, 0, 20, 5)} {
		r := l.Records()
		r[0][0], r[1] = 'Y', nil
		_ = append(r[0], 'Z')
		holds(t, "behind changes of what was told", l, 16, []byte("abc"), []byte("de"))
	}
}

// P4.2, P4.3
func TestNil(t *testing.T) {
	var l *Log
	if r := l.Records(); len(r) != 0 {
		t.Errorf("Records: %q", r)
	}
	if n := l.Room(); n != 0 {
		t.Errorf("Room: %d", n)
	}
	tells(t, "Append", l.Append(nil), api.ErrArg)
	tells(t, "Append of too much", l.Append(make([]byte, 4097)), api.ErrArg)
}

// P4.1, P4.2, P4.3
func TestAThatWasNotOpened(t *testing.T) {
	l := new(Log)
	holds(t, "a new one", l, 0)
	tells(t, "Append", l.Append(nil), api.ErrFull)
	l, e := Open(new(device.Disk), 0, 0, 0)
	tells(t, "Open of a disk without sectors", e, api.OK)
	tells(t, "Append", l.Append(nil), api.ErrFull)
}

// P4.3
func TestAppendRefuses(t *testing.T) {
	d := disk(t, 100)
	l := open(t, d, 0, 4, 5)
	was := image(t, d)
	tells(t, "too long, and no room", l.Append(make([]byte, 4097)), api.ErrLong)
	tells(t, "no room", l.Append(make([]byte, 190)), api.ErrFull)
	tells(t, "no room for the longest", l.Append(make([]byte, 4096)), api.ErrFull)
	holds(t, "behind refusals", l, 4)
	same(t, "the disk", image(t, d), was)
	tells(t, "just room", l.Append(filled(189)), api.OK)
	holds(t, "full", l, 0, filled(189))
	tells(t, "no room for an empty one", l.Append(nil), api.ErrFull)
	tells(t, "too long for a full one", l.Append(make([]byte, 5000)), api.ErrLong)
	holds(t, "full still", l, 0, filled(189))
	l = open(t, d, 4, 100, 5)
	tells(t, "the longest", l.Append(filled(4096)), api.OK)
	holds(t, "with the longest", l, 29, filled(4096))
	holds(t, "opened with the longest", open(t, d, 4, 100, 5), 29, filled(4096))
	tells(t, "too long", l.Append(make([]byte, 4097)), api.ErrLong)
}

// P4.3
func TestAppendRefusesAheadOfTheDisk(t *testing.T) {
	d := disk(t, 4)
	l := open(t, d, 0, 4, 5)
	d.Arm(1)
	tells(t, "too long", l.Append(make([]byte, 4097)), api.ErrLong)
	tells(t, "no room", l.Append(make([]byte, 4096)), api.ErrFull)
	if d.Dead() {
		t.Error("what was refused called the disk")
	}
	tells(t, "the disk's error", l.Append(nil), api.ErrDead)
	tells(t, "too long of a dead one", l.Append(make([]byte, 4097)), api.ErrLong)
	tells(t, "no room of a dead one", l.Append(make([]byte, 4096)), api.ErrFull)
}

// P4.3
func TestAppendLaysItsSectors(t *testing.T) {
	d := disk(t, 9)
	for i := range 9 {
		put(t, d, i, bytes.Repeat([]byte{7}, 64)...)
	}
	l := open(t, d, 1, 8, math.MaxUint64)
	b := filled(64)
	tells(t, "Append", l.Append(b), api.OK)
	tells(t, "Append", l.Append(nil), api.OK)
	tells(t, "Append", l.Append(b[:63]), api.OK)
	old := bytes.Repeat([]byte{7}, 64)
	same(t, "the disk", image(t, d), [][]byte{
		old,
		sector(1, 8, 255, 255, 255, 255, 255, 255, 255, 255, 0, 1, 64),
		append([]byte{0}, b[:63]...),
		sector(0, 64),
		sector(1, 8, 255, 255, 255, 255, 255, 255, 255, 255, 1, 1, 0),
		sector(1, 8, 255, 255, 255, 255, 255, 255, 255, 255, 1, 2, 1, 63),
		append([]byte{0}, b[:63]...),
		old,
		old,
	})
	if d.Waiting() != 0 {
		t.Errorf("%d writes wait", d.Waiting())
	}
	holds(t, "the log", l, 1, b, nil, b[:63])
}

// written is the place of the only write that a disk has more than another one.
func written(t *testing.T, was, is [][]byte) int {
	t.Helper()
	at := -1
	for i := range was {
		if !bytes.Equal(was[i], is[i]) {
			if at >= 0 {
				t.Fatal("one write changed two sectors")
			}
			at = i
		}
	}
	return at
}

// P4.3
func TestAppendCallsTheDiskInOrder(t *testing.T) {
	// Of each call that the disk doesn't stop at: which sectors wait behind it; of a Flush none do.
	after := [][]int{{}, {3}, {3, 4}, {3, 4, 5}, {}, {2}, {}}
	for stop := 1; stop <= len(after); stop++ {
		d := disk(t, 9)
		was := image(t, d)
		l := open(t, d, 2, 9, 5)
		d.Arm(stop)
		e := l.Append(filled(127))
		if stop == len(after) {
			tells(t, "Append ahead of the stop", e, api.OK)
			holds(t, "ahead of the stop", l, 3, filled(127))
			tells(t, "the call behind", d.Flush(), api.ErrDead)
			continue
		}
		tells(t, "Append that is stopped", e, api.ErrDead)
		holds(t, "behind the stop", l, 7)
		tells(t, "Append behind it", l.Append(nil), api.ErrDead)
		want := after[stop-1]
		if d.Waiting() != len(want) {
			t.Errorf("stopped at %d: %d writes wait, want %d", stop, d.Waiting(), len(want))
			continue
		}
		kept := image(t, d.Restart(nil))
		if stop <= 4 { // up to the first Flush, which stops too, nothing stays
			same(t, "what is kept", kept, was)
		}
		for n, place := range want {
			keep := make([]bool, n+1)
			keep[n] = true
			// A part isn't noughts throughout: whoever keeps its write sees where it is.
			if at := written(t, kept, image(t, d.Restart(keep))); at != place {
				t.Errorf("stopped at %d: write %d is of sector %d, want %d", stop, n, at, place)
			}
		}
	}
}

// P4.3
func TestAppendKeepsThePartsAheadOfTheHead(t *testing.T) {
	b := filled(127)
	d := disk(t, 9)
	l := open(t, d, 2, 9, 5)
	d.Arm(5)
	tells(t, "Append", l.Append(b), api.ErrDead)
	kept := image(t, d.Restart(nil))
	same(t, "what is kept", kept[2:6], [][]byte{sector(), append([]byte{0}, b[:63]...), append([]byte{0}, b[63:126]...), sector(0, b[126])})
}

// P4.3
func TestAppendOfNothingFlushesTwice(t *testing.T) {
	d := disk(t, 9)
	l := open(t, d, 2, 9, 5)
	tells(t, "Write", d.Write(8, []byte{9}), api.OK)
	d.Arm(2)
	tells(t, "Append", l.Append(nil), api.ErrDead)
	if kept := image(t, d.Restart(nil)); kept[8][0] != 9 || kept[2][0] != 0 {
		t.Errorf("the first Flush isn't ahead of the head: %v", kept)
	}
	d = disk(t, 9)
	l = open(t, d, 2, 9, 5)
	d.Arm(4)
	tells(t, "Append", l.Append(nil), api.OK)
	tells(t, "the call behind", d.Flush(), api.ErrDead)
}

// P4.3
func TestAnotherEpochBeginsAnew(t *testing.T) {
	d := disk(t, 9)
	old := open(t, d, 0, 9, 5)
	for range 4 {
		tells(t, "Append", old.Append([]byte("old")), api.OK)
	}
	l := open(t, d, 0, 9, 6)
	holds(t, "the new one", l, 9)
	tells(t, "Append", l.Append([]byte("new")), api.OK)
	holds(t, "opened", open(t, d, 0, 9, 6), 7, []byte("new"))
	holds(t, "the old one, opened", open(t, d, 0, 9, 5), 9)
}

// P4.3
func TestLogsSideBySide(t *testing.T) {
	d := disk(t, 9)
	l, m := open(t, d, 0, 4, 5), open(t, d, 4, 9, 5)
	for i := range 2 {
		tells(t, "Append", l.Append([]byte{byte(i)}), api.OK)
		tells(t, "Append", m.Append([]byte{byte(9 - i)}), api.OK)
	}
	holds(t, "the first", open(t, d, 0, 4, 5), 0, []byte{0}, []byte{1})
	holds(t, "the second", open(t, d, 4, 9, 5), 1, []byte{9}, []byte{8})
	tells(t, "the first is full", l.Append(nil), api.ErrFull)
}

// keeps tells all ways in which writes may stay, up to 64 of them.
func keeps(r *rand.Rand, waiting int) [][]bool {
	var out [][]bool
	for n := range min(1<<waiting, 64) {
		keep := make([]bool, waiting)
		for i := range keep {
			keep[i] = n>>i&1 == 1
			if waiting > 6 {
				keep[i] = r.Intn(2) == 1
			}
		}
		out = append(out, keep)
	}
	return out
}

// P4.4
func TestBehindEachStop(t *testing.T) {
	r := rand.New(rand.NewSource(4))
	for round := range 400 {
		d := disk(t, 40)
		// An older log's sectors are there still.
		old := open(t, d, 3, 40, 8)
		for old.Append(filled(r.Intn(130))) == api.OK {
		}
		var told [][]byte
		for range 4 {
			l := open(t, d, 3, 40, 9)
			same(t, "opened", l.Records(), told)
			d.Arm(1 + r.Intn(30))
			var last []byte
			stopped := false
			for range 6 {
				last = make([]byte, r.Intn(160))
				r.Read(last)
				if e := l.Append(last); e == api.ErrDead {
					stopped = true
					break
				} else if e == api.OK {
					told = append(told, last)
				}
			}
			same(t, "at the stop", l.Records(), told)
			all := keeps(r, d.Waiting())
			for _, keep := range all {
				got := open(t, d.Restart(keep), 3, 40, 9).Records()
				if len(got) == len(told)+1 && stopped {
					same(t, "with one more", got, append(told[:len(told):len(told)], last))
				} else {
					same(t, "behind a stop", got, told)
				}
			}
			d = d.Restart(all[r.Intn(len(all))])
			if got := open(t, d, 3, 40, 9).Records(); len(got) > len(told) {
				told = append(told, last)
			}
		}
		if t.Failed() {
			t.Fatalf("round %d", round)
		}
	}
}

// P4.4
func TestTheOneThatAStopFellIntoMayBeThere(t *testing.T) {
	d := disk(t, 9)
	l := open(t, d, 0, 9, 5)
	tells(t, "Append", l.Append([]byte("a")), api.OK)
	d.Arm(4)
	tells(t, "Append", l.Append([]byte("b")), api.ErrDead)
	holds(t, "the log itself", l, 7, []byte("a"))
	holds(t, "the head is gone", open(t, d.Restart(nil), 0, 9, 5), 7, []byte("a"))
	m := open(t, d.Restart([]bool{true}), 0, 9, 5)
	holds(t, "the head stayed", m, 5, []byte("a"), []byte("b"))
	tells(t, "Append behind it", m.Append([]byte("c")), api.OK)
	holds(t, "and goes on", m, 3, []byte("a"), []byte("b"), []byte("c"))
}
