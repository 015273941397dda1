package twin

import (
	"bytes"
	"math"
	"math/rand"
	"testing"

	"doorman/api"
	"doorman/device"
	"doorman/fields"
	"doorman/journal"
)

// disk is a new one of so many sectors.
func disk(t *testing.T, sectors int) *device.Disk {
	t.Helper()
	d, e := device.New(sectors)
	if e != api.OK {
		t.Fatal(e)
	}
	return d
}

// open is the twin of a disk.
func open(t *testing.T, d *device.Disk, room int) *Twin {
	t.Helper()
	x, e := Open(d, room)
	if e != api.OK || x == nil {
		t.Fatalf("Open of %d sectors, room %d: %v, %v", d.Len(), room, x, e)
	}
	return x
}

// put writes a sector that stays.
func put(t *testing.T, d *device.Disk, i int, b ...byte) {
	t.Helper()
	if e := d.Write(i, b); e != api.OK {
		t.Fatal(e)
	}
	if e := d.Flush(); e != api.OK {
		t.Fatal(e)
	}
}

// putHead writes the sector of a head of that epoch and size, that stays.
func putHead(t *testing.T, d *device.Disk, i int, epoch, size uint64) {
	t.Helper()
	put(t, d, i, headBytes(epoch, size)...)
}

// headBytes is the bytes of a head.
func headBytes(epoch, size uint64) []byte { return append([]byte{2}, fields.Put(epoch, size)...) }

// tells holds an error against the one that is wanted.
func tells(t *testing.T, what string, got, want api.Errno) {
	t.Helper()
	if got != want {
		t.Errorf("%s: %v, want %v", what, got, want)
	}
}

// content is all that a twin tells.
type content struct {
	epoch   uint64
	state   []byte
	records [][]byte
}

// of is what a twin tells.
func of(x *Twin) content { return content{x.Epoch(), x.State(), x.Records()} }

// with is the content with one record more.
func (c content) with(b []byte) content {
	c.records = append(c.records[:len(c.records):len(c.records)], b)
	return c
}

// is tells whether both contents are the same.
func (c content) is(o content) bool {
	return c.epoch == o.epoch && bytes.Equal(c.state, o.state) && equal(c.records, o.records)
}

// equal tells whether both lists have the same bytes.
func equal(a, b [][]byte) bool {
	if len(a) != len(b) {
		return false
	}
	for i := range a {
		if !bytes.Equal(a[i], b[i]) {
			return false
		}
	}
	return true
}

// holds holds what a twin tells against what is wanted.
func holds(t *testing.T, what string, x *Twin, epoch uint64, state string, records ...string) {
	t.Helper()
	want := content{epoch: epoch, state: []byte(state)}
	for _, s := range records {
		want = want.with([]byte(s))
	}
	if got := of(x); !got.is(want) {
		t.Errorf("%s: epoch %d, state %q, records %q, want %d, %q, %q", what, got.epoch, got.state, got.records, want.epoch, want.state, want.records)
	}
}

// image is all sectors of a disk that isn't dead.
func image(t *testing.T, d *device.Disk) [][]byte {
	t.Helper()
	var out [][]byte
	for i := range d.Len() {
		b, e := d.Read(i)
		if e != api.OK {
			t.Fatal(e)
		}
		out = append(out, b)
	}
	return out
}

// same holds sectors against those that are wanted.
func same(t *testing.T, what string, got, want [][]byte) {
	t.Helper()
	if len(got) != len(want) {
		t.Errorf("%s: %d sectors, want %d", what, len(got), len(want))
		return
	}
	for i := range want {
		if !bytes.Equal(got[i], want[i]) {
			t.Errorf("%s: sector %d is %v, want %v", what, i, got[i], want[i])
		}
	}
}

// filled is so many bytes, none of them 0, none like the next.
func filled(n int) []byte {
	b := make([]byte, n)
	for i := range b {
		b[i] = byte(1 + i%251)
	}
	return b
}

// sector is a sector that begins with those bytes.
func sector(b ...byte) []byte { return append(b, make([]byte, 64-len(b))...) }

// P5.1
func TestOpenRefuses(t *testing.T) {
	dead := disk(t, 9)
	dead.Arm(1)
	tells(t, "Flush", dead.Flush(), api.ErrDead)
	for _, c := range []struct {
		what string
		d    *device.Disk
		room int
		want api.Errno
	}{
		{"no disk", nil, 0, api.ErrArg},
		{"a disk without sectors", new(device.Disk), 0, api.ErrArg},
		{"room below 0", disk(t, 9), -1, api.ErrArg},
		{"room far below 0", disk(t, 9), math.MinInt, api.ErrArg},
		{"room of which two and 2 are, as an int, 0", disk(t, 9), math.MaxInt, api.ErrArg},
		{"room of which two are, as an int, below 0", disk(t, 9), 1 << 62, api.ErrArg},
		{"room above 30000", disk(t, 65536), 30001, api.ErrArg},
		{"the heads alone", disk(t, 2), 0, api.ErrArg},
		{"a head alone", disk(t, 1), 0, api.ErrArg},
		{"no sector for the log", disk(t, 8), 3, api.ErrArg},
		{"no room for the states", disk(t, 8), 4, api.ErrArg},
		{"no sector for the log, with the greatest room", disk(t, 60002), 30000, api.ErrArg},
		{"a dead one", dead, 3, api.ErrDead},
		{"a dead one, and no sector for the log", dead, 4, api.ErrArg},
	} {
		x, e := Open(c.d, c.room)
		if x != nil || e != c.want {
			t.Errorf("%s: %v, %v, want %v", c.what, x, e, c.want)
		}
	}
}

// P5.1
func TestOpenTakesTheEdges(t *testing.T) {
	for sectors, room := range map[int]int{3: 0, 9: 3, 60003: 30000, 65536: 30000} {
		d := disk(t, sectors)
		holds(t, "a new one", open(t, d, room), 1, "")
		holds(t, "opened again", open(t, d.Restart(nil), room), 1, "")
	}
}

// P5.1
func TestOpenOfNoHeadWritesOne(t *testing.T) {
	d := disk(t, 9)
	was := image(t, d)
	holds(t, "a new one", open(t, d, 3), 1, "")
	if d.Waiting() != 0 {
		t.Errorf("%d writes wait", d.Waiting())
	}
	want := image(t, disk(t, 9))
	want[1] = sector(2, 1, 1, 0)
	same(t, "the disk", image(t, d), want)
	for stop, waits := range []int{0, 1} {
		d := disk(t, 9)
		d.Arm(stop + 1)
		if x, e := Open(d, 3); x != nil || e != api.ErrDead || d.Waiting() != waits {
			t.Errorf("stopped at %d: %v, %v, %d writes wait", stop+1, x, e, d.Waiting())
		}
		same(t, "behind the stop", image(t, d.Restart(nil)), was)
		holds(t, "opened behind the stop", open(t, d.Restart([]bool{true}), 3), 1, "")
	}
	d = disk(t, 9)
	d.Arm(3)
	open(t, d, 3)
	tells(t, "the call behind", d.Flush(), api.ErrDead)
}

// P5.1: with no head there the first one's records are those that a log of its epoch has.
func TestOpenOfNoHeadReadsTheLogOfTheFirstEpoch(t *testing.T) {
	d := disk(t, 12)
	x := open(t, d, 2)
	tells(t, "Append", x.Append([]byte("r")), api.OK)
	put(t, d, 1)
	holds(t, "with the head gone", open(t, d, 2), 1, "", "r")
}

// P5.1
func TestOpenWritesNothingElse(t *testing.T) {
	d := disk(t, 12)
	x := open(t, d, 2)
	tells(t, "Keep", x.Keep([]byte("state")), api.OK)
	tells(t, "Append", x.Append([]byte("r")), api.OK)
	tells(t, "Write", d.Write(11, []byte{9}), api.OK)
	was := image(t, d)
	d.Arm(1)
	for range 3 {
		holds(t, "opened", open(t, d, 2), 2, "state", "r")
	}
	if d.Waiting() != 1 {
		t.Errorf("%d writes wait", d.Waiting())
	}
	same(t, "the disk", image(t, d), was)
	tells(t, "Flush", d.Flush(), api.ErrDead)
}

// P5.1
func TestOpenTakesTheGreaterEpoch(t *testing.T) {
	for _, c := range []struct {
		zero, one uint64 // the epochs of both heads
		want      uint64
		state     string
	}{
		{0, 0, 1, ""},
		{0, 1, 1, "one"},
		{0, 7, 7, "one"},
		{2, 0, 2, "zero"},
		{2, 1, 2, "zero"},
		{2, 3, 3, "one"},
		{256, 255, 256, "zero"},
		{256, 257, 257, "one"},
		{8, 1001, 1001, "one"},
		{1 << 63, 1<<63 - 1, 1 << 63, "zero"},
		{math.MaxUint64 - 1, math.MaxUint64, math.MaxUint64, "one"},
		{math.MaxUint64 - 1, 1, math.MaxUint64 - 1, "zero"},
	} {
		d := disk(t, 9)
		put(t, d, 2, []byte("zero")...)
		put(t, d, 4, []byte("one")...)
		if c.zero > 0 {
			putHead(t, d, 0, c.zero, 4)
		}
		if c.one > 0 {
			putHead(t, d, 1, c.one, 3)
		}
		holds(t, "of two heads", open(t, d, 2), c.want, c.state)
	}
}

// P5.1
func TestOpenHoldsEachPartOfAHead(t *testing.T) {
	for _, c := range []struct {
		what  string
		place int
		head  []byte
		there bool
	}{
		{"the head itself", 0, []byte{2, 1, 6, 1, 2}, true},
		{"with bytes behind", 0, append([]byte{2, 1, 6, 1, 2}, filled(59)...), true},
		{"the other head", 1, []byte{2, 1, 7, 1, 2}, true},
		{"a greater epoch", 1, []byte{2, 2, 1, 7, 1, 2}, true},
		{"of no bytes", 0, []byte{2, 1, 6, 0}, true},
		{"the greatest size", 0, []byte{2, 1, 6, 1, 128}, true},
		{"a size above", 0, []byte{2, 1, 6, 1, 129}, false},
		{"a size far above", 0, []byte{2, 1, 6, 8, 255, 255, 255, 255, 255, 255, 255, 255}, false},
		{"a size that is as an int below 0", 0, []byte{2, 1, 6, 8, 128, 0, 0, 0, 0, 0, 0, 0}, false},
		{"a size that is as 32 bits 2", 0, []byte{2, 1, 6, 5, 1, 0, 0, 0, 2}, false},
		{"a size with noughts ahead", 0, []byte{2, 1, 6, 2, 0, 2}, false},
		{"a size that is no number", 0, []byte{2, 1, 6, 9}, false},
		{"an epoch with noughts ahead", 0, []byte{2, 2, 0, 6, 1, 2}, false},
		{"an epoch that is no number", 0, []byte{2, 9, 6, 1, 2}, false},
		{"epoch 0", 0, []byte{2, 0, 1, 2}, false},
		{"an odd epoch of head 0", 0, []byte{2, 1, 7, 1, 2}, false},
		{"an even epoch of head 1", 1, []byte{2, 1, 6, 1, 2}, false},
		{"epoch 0 of head 1", 1, []byte{2, 0, 1, 2}, false},
		{"a nought", 0, []byte{0, 1, 6, 1, 2}, false},
		{"a log's head", 0, []byte{1, 1, 6, 1, 2}, false},
		{"another sign", 0, []byte{3, 1, 6, 1, 2}, false},
		{"a greater sign", 0, []byte{255, 1, 6, 1, 2}, false},
		{"noughts", 0, nil, false},
	} {
		d := disk(t, 9)
		put(t, d, c.place, c.head...)
		other := 1 - c.place
		want := uint64(4 + other) // less than the one that is told
		putHead(t, d, other, want, 0)
		if c.there {
			want = fields.Open(c.head[1:]).Num()
		}
		if got := open(t, d, 2).Epoch(); got != want {
			t.Errorf("%s: epoch %d, want %d", c.what, got, want)
		}
	}
}

// P5.1
func TestOpenOfTwoBrokenHeadsWritesTheFirstOne(t *testing.T) {
	d := disk(t, 9)
	putHead(t, d, 0, 3, 0)
	putHead(t, d, 1, 4, 0)
	put(t, d, 4, []byte("old")...)
	want := image(t, d)
	want[1] = sector(2, 1, 1, 0)
	holds(t, "opened", open(t, d, 2), 1, "")
	same(t, "the disk", image(t, d), want)
}

// P5.1
func TestOpenReadsAStateOfEachSize(t *testing.T) {
	d := disk(t, 9)
	b := filled(192)
	for i := range 3 {
		put(t, d, 2+i, b[i*64:i*64+64]...)
	}
	for _, size := range []int{0, 1, 63, 64, 65, 127, 128, 129, 191, 192} {
		putHead(t, d, 0, 2, uint64(size))
		holds(t, "of some size", open(t, d, 3), 2, string(b[:size]))
	}
}

// P5.1
func TestOpenReadsTheLogOfItsEpoch(t *testing.T) {
	d := disk(t, 20)
	l, e := journal.Open(d, 6, 20, 8)
	tells(t, "Open", e, api.OK)
	tells(t, "Append", l.Append([]byte("a")), api.OK)
	tells(t, "Append", l.Append(filled(100)), api.OK)
	putHead(t, d, 0, 8, 0)
	holds(t, "of that epoch", open(t, d, 2), 8, "", "a", string(filled(100)))
	putHead(t, d, 1, 9, 0)
	holds(t, "of the epoch behind", open(t, d, 2), 9, "")
	put(t, d, 1)
	putHead(t, d, 0, 6, 0)
	holds(t, "of an epoch ahead", open(t, d, 2), 6, "")
}

// P5.2
func TestAppendIsTheLogs(t *testing.T) {
	d := disk(t, 12)
	x := open(t, d, 2)
	want := image(t, d)
	tells(t, "Append", x.Append([]byte("ab")), api.OK)
	tells(t, "Append", x.Append(nil), api.OK)
	holds(t, "behind it", x, 1, "", "ab", "")
	want[6], want[7], want[8] = sector(1, 1, 1, 0, 1, 2), sector(0, 'a', 'b'), sector(1, 1, 1, 1, 1, 0)
	same(t, "the disk", image(t, d), want)
	tells(t, "Append of too much", x.Append(make([]byte, 4097)), api.ErrLong)
	tells(t, "Append beyond the room", x.Append(filled(127)), api.ErrFull)
	tells(t, "Append up to the end", x.Append(filled(126)), api.OK)
	tells(t, "Append of nothing to a full one", x.Append(nil), api.ErrFull)
	holds(t, "full", x, 1, "", "ab", "", string(filled(126)))
	holds(t, "opened", open(t, d.Restart(nil), 2), 1, "", "ab", "", string(filled(126)))
	tells(t, "Keep", x.Keep([]byte("s")), api.OK)
	tells(t, "Append behind Keep", x.Append(filled(315)), api.OK)
	holds(t, "behind Keep", x, 2, "s", string(filled(315)))
	d.Arm(1)
	tells(t, "Append to a full one calls no disk", x.Append(nil), api.ErrFull)
	y := open(t, d, 2)
	tells(t, "Keep of a dead one", y.Keep(nil), api.ErrDead)
	holds(t, "behind it", y, 2, "s", string(filled(315)))
}

// P5.2
func TestAppendTellsTheDisksErrors(t *testing.T) {
	for stop := 1; stop <= 4; stop++ {
		d := disk(t, 12)
		x := open(t, d, 2)
		tells(t, "Append", x.Append([]byte("a")), api.OK)
		d.Arm(stop)
		tells(t, "Append that is stopped", x.Append([]byte("b")), api.ErrDead)
		holds(t, "behind it", x, 1, "", "a")
	}
}

// P5.2
func TestMemoryIsNew(t *testing.T) {
	d := disk(t, 20)
	x := open(t, d, 2)
	state, record := []byte("state"), []byte("record")
	tells(t, "Keep", x.Keep(state), api.OK)
	tells(t, "Append", x.Append(record), api.OK)
	if string(state) != "state" || string(record) != "record" {
		t.Errorf("what was handed in was changed: %q, %q", state, record)
	}
	state[0], record[0] = 'X', 'X'
	for _, x := range []*Twin{x, open(t, d, 2)} {
		s, r := x.State(), x.Records()
		s[0], r[0][0] = 'Y', 'Y'
		r[0] = nil
		_ = append(s, 'Z')
		holds(t, "behind changes of what was told", x, 2, "state", "record")
	}
}

// P5.2, P5.3
func TestNil(t *testing.T) {
	var x *Twin
	holds(t, "nil", x, 0, "")
	tells(t, "Append", x.Append(nil), api.ErrArg)
	tells(t, "Append of too much", x.Append(make([]byte, 4097)), api.ErrArg)
	tells(t, "Keep", x.Keep(nil), api.ErrArg)
	tells(t, "Keep of much", x.Keep(make([]byte, 4097)), api.ErrArg)
}

// P5.2, P5.3
func TestAThatWasNotOpened(t *testing.T) {
	x := new(Twin)
	holds(t, "a new one", x, 0, "")
	if x.Append(nil) == api.OK || x.Keep(nil) == api.OK || x.Keep([]byte{1}) == api.OK {
		t.Error("something is kept nowhere")
	}
	holds(t, "behind it", x, 0, "")
}

// P5.3
func TestKeepTakesTurns(t *testing.T) {
	d := disk(t, 20)
	x := open(t, d, 2)
	long := string(filled(128))
	for i, s := range []string{"a", "", long, "b", "a state", string(filled(64)), string(filled(65)), ""} {
		tells(t, "Append", x.Append([]byte("r")), api.OK)
		tells(t, "Keep", x.Keep([]byte(s)), api.OK)
		epoch := uint64(2 + i)
		holds(t, "behind Keep", x, epoch, s)
		if d.Waiting() != 0 {
			t.Errorf("%d writes wait", d.Waiting())
		}
		d = d.Restart(nil)
		x = open(t, d, 2)
		holds(t, "opened", x, epoch, s)
	}
}

// P5.3
func TestKeepLaysItsSectors(t *testing.T) {
	d := disk(t, 9)
	x := open(t, d, 3)
	for i := 2; i < 9; i++ {
		put(t, d, i, bytes.Repeat([]byte{7}, 64)...)
	}
	want := image(t, d)
	b := filled(130)
	tells(t, "Keep", x.Keep(b), api.OK)
	want[0], want[2], want[3], want[4] = sector(2, 1, 2, 1, 130), b[:64], b[64:128], sector(b[128:]...)
	same(t, "behind the first", image(t, d), want)
	b = filled(64)
	tells(t, "Keep", x.Keep(b), api.OK)
	want[1], want[5] = sector(2, 1, 3, 1, 64), b
	same(t, "behind the second", image(t, d), want)
	tells(t, "Keep", x.Keep(nil), api.OK)
	want[0] = sector(2, 1, 4, 0)
	same(t, "behind the third", image(t, d), want)
	b = filled(192)
	tells(t, "Keep", x.Keep(b), api.OK)
	want[1], want[5], want[6], want[7] = sector(2, 1, 5, 1, 192), b[:64], b[64:128], b[128:]
	same(t, "behind the fourth", image(t, d), want)
	holds(t, "opened", open(t, d, 3), 5, string(b))
}

// P5.3
func TestKeepRefuses(t *testing.T) {
	d := disk(t, 9)
	x := open(t, d, 2)
	tells(t, "Append", x.Append([]byte("r")), api.OK)
	was := image(t, d)
	d.Arm(1)
	tells(t, "Keep of too much", x.Keep(make([]byte, 129)), api.ErrFull)
	tells(t, "Keep of far too much", x.Keep(make([]byte, 9999)), api.ErrFull)
	holds(t, "behind it", x, 1, "", "r")
	same(t, "the disk", image(t, d), was)
	tells(t, "Keep that is stopped", x.Keep(make([]byte, 128)), api.ErrDead)
	tells(t, "Keep of too much of a dead one", x.Keep(make([]byte, 129)), api.ErrFull)
	tells(t, "Keep of a dead one", x.Keep(nil), api.ErrDead)
	holds(t, "behind it", x, 1, "", "r")

	x = open(t, disk(t, 3), 0)
	tells(t, "Keep of a byte without room", x.Keep([]byte{1}), api.ErrFull)
	tells(t, "Keep of nothing without room", x.Keep(nil), api.OK)
	holds(t, "behind it", x, 2, "")
}

// P5.3
func TestKeepTakesTheGreatestState(t *testing.T) {
	d := disk(t, 65536)
	x := open(t, d, 30000)
	b := filled(30000 * 64)
	tells(t, "Keep of too much", x.Keep(append(b[:len(b):len(b)], 1)), api.ErrFull)
	for range 2 {
		tells(t, "Keep", x.Keep(b), api.OK)
	}
	if got := of(open(t, d.Restart(nil), 30000)); !got.is(content{3, b, nil}) {
		t.Errorf("epoch %d, %d bytes", got.epoch, len(got.state))
	}
}

// P5.3
func TestKeepCallsTheDiskInOrder(t *testing.T) {
	// Of each call that the disk stops at: which sectors wait there.
	waits := [][]int{{}, {5}, {5, 6}, {5, 6, 7}, {}, {1}}
	b := filled(130)
	for stop := 1; stop <= len(waits); stop++ {
		d := disk(t, 12)
		x := open(t, d, 3)
		tells(t, "Keep", x.Keep([]byte("old")), api.OK)
		tells(t, "Append", x.Append([]byte("r")), api.OK)
		was := image(t, d)
		d.Arm(stop)
		tells(t, "Keep that is stopped", x.Keep(b), api.ErrDead)
		holds(t, "behind the stop", x, 2, "old", "r")
		tells(t, "Append behind it", x.Append(nil), api.ErrDead)
		kept := image(t, d.Restart(nil))
		if stop > 4 {
			was[5], was[6], was[7] = b[:64], b[64:128], sector(b[128:]...)
		}
		same(t, "what is kept", kept, was)
		want := waits[stop-1]
		if d.Waiting() != len(want) {
			t.Fatalf("stopped at %d: %d writes wait, want %d", stop, d.Waiting(), len(want))
		}
		for n, place := range want {
			keep := make([]bool, n+1)
			keep[n] = true
			is := image(t, d.Restart(keep))
			for i := range is {
				if bytes.Equal(is[i], kept[i]) == (i == place) {
					t.Errorf("stopped at %d: write %d is of another sector than %d", stop, n, place)
				}
			}
		}
	}
	d := disk(t, 12)
	x := open(t, d, 3)
	d.Arm(len(waits) + 1)
	tells(t, "Keep ahead of the stop", x.Keep(b), api.OK)
	tells(t, "the call behind", d.Flush(), api.ErrDead)
	holds(t, "behind it", x, 2, string(b))
}

// P5.3
func TestKeepOfNothingFlushesTwice(t *testing.T) {
	d := disk(t, 12)
	x := open(t, d, 3)
	tells(t, "Write", d.Write(11, []byte{9}), api.OK)
	d.Arm(2)
	tells(t, "Keep", x.Keep(nil), api.ErrDead)
	if kept := image(t, d.Restart(nil)); kept[11][0] != 9 || kept[0][0] != 0 {
		t.Errorf("the first Flush isn't ahead of the head: %v", kept)
	}
	d = disk(t, 12)
	x = open(t, d, 3)
	d.Arm(4)
	tells(t, "Keep", x.Keep(nil), api.OK)
	tells(t, "the call behind", d.Flush(), api.ErrDead)
}

// P5.3
func TestKeepGoesOnBehindAGreatEpoch(t *testing.T) {
	d := disk(t, 12)
	putHead(t, d, 0, math.MaxUint64-1, 0)
	x := open(t, d, 3)
	tells(t, "Keep", x.Keep([]byte("last")), api.OK)
	tells(t, "Append", x.Append([]byte("r")), api.OK)
	holds(t, "behind it", x, math.MaxUint64, "last", "r")
	holds(t, "opened", open(t, d.Restart(nil), 3), math.MaxUint64, "last", "r")
}

// P5.3: of the next epoch records stand in the log's sectors already, whoever laid them.
func TestKeepTellsNoRecordsThatStandThere(t *testing.T) {
	for _, laid := range [][]string{{""}, {"r"}, {"r", "s"}, {string(filled(315))}} {
		d := disk(t, 12)
		x := open(t, d, 2)
		tells(t, "Append", x.Append([]byte("old")), api.OK)
		l, e := journal.Open(d, 6, 12, 2)
		tells(t, "Open", e, api.OK)
		for _, s := range laid {
			tells(t, "Append of somebody else", l.Append([]byte(s)), api.OK)
		}
		want := image(t, d)
		tells(t, "Keep", x.Keep([]byte("b")), api.OK)
		holds(t, "behind Keep", x, 2, "b")
		want[0], want[2] = sector(2, 1, 2, 1, 1), sector('b')
		same(t, "the disk", image(t, d), want)
		holds(t, "opened", open(t, d.Restart(nil), 2), 2, "b", laid...)
		tells(t, "Keep", x.Keep([]byte("c")), api.OK)
		holds(t, "behind the second", x, 3, "c")
		holds(t, "opened behind the second", open(t, d.Restart(nil), 2), 3, "c")
	}
}

// P5.2, P5.3: what is put behind such a state is the log's first record, at its first place, and has all its room.
func TestAppendBehindKeepIsTheFirst(t *testing.T) {
	for _, c := range []struct{ laid, first, second string }{
		{"r", "x", "y"},
		{"", string(filled(252)), ""},
		{string(filled(315)), "x", string(filled(189))},
		{string(filled(315)), string(filled(189)), "y"},
	} {
		d := disk(t, 12)
		one, two := open(t, d, 2), open(t, d, 2)
		tells(t, "Keep of one", one.Keep([]byte("a")), api.OK)
		tells(t, "Append of one", one.Append([]byte(c.laid)), api.OK)
		tells(t, "Keep of two", two.Keep([]byte("b")), api.OK)
		holds(t, "behind Keep", two, 2, "b")
		tells(t, "Append of too much", two.Append(filled(316)), api.ErrFull)
		tells(t, "Append", two.Append([]byte(c.first)), api.OK)
		holds(t, "behind the first", two, 2, "b", c.first)
		s, e := d.Read(6)
		if want := sector(append([]byte{1}, fields.Put(2, 0, uint64(len(c.first)))...)...); e != api.OK || !bytes.Equal(s, want) {
			t.Errorf("the first one's head is %v, want %v", s, want)
		}
		tells(t, "Append", two.Append([]byte(c.second)), api.OK)
		holds(t, "behind the second", two, 2, "b", c.first, c.second)
		holds(t, "opened", open(t, d.Restart(nil), 2), 2, "b", c.first, c.second)
	}
}

// P5.3: a Keep that is stopped leaves the twin's records, whatever stands there of the next epoch.
func TestKeepThatIsStoppedLeavesTheRecords(t *testing.T) {
	for stop := 1; stop <= 4; stop++ {
		d := disk(t, 12)
		one, two := open(t, d, 2), open(t, d, 2)
		tells(t, "Append of two", two.Append([]byte("old")), api.OK)
		tells(t, "Keep of one", one.Keep([]byte("a")), api.OK)
		tells(t, "Append of one", one.Append([]byte("r")), api.OK)
		d.Arm(stop)
		tells(t, "Keep of two", two.Keep([]byte("b")), api.ErrDead)
		holds(t, "behind it", two, 1, "", "old")
	}
}

// P5.4
func TestTheOneThatAStopFellIntoMayBeThere(t *testing.T) {
	d := disk(t, 12)
	x := open(t, d, 2)
	tells(t, "Keep", x.Keep([]byte("a")), api.OK)
	tells(t, "Append", x.Append([]byte("r")), api.OK)
	d.Arm(4)
	tells(t, "Keep", x.Keep([]byte("b")), api.ErrDead)
	holds(t, "the twin itself", x, 2, "a", "r")
	holds(t, "the head is gone", open(t, d.Restart(nil), 2), 2, "a", "r")
	y := open(t, d.Restart([]bool{true}), 2)
	holds(t, "the head stayed", y, 3, "b")
	tells(t, "Append behind it", y.Append([]byte("s")), api.OK)
	tells(t, "Keep behind it", y.Keep([]byte("c")), api.OK)
	holds(t, "and goes on", y, 4, "c")
}

// stop does calls on a disk's twin till the disk stops: what all calls that told OK come to, and what the one that the stop fell into would.
func stop(t *testing.T, r *rand.Rand, d *device.Disk, room int) (told, more content) {
	t.Helper()
	x := open(t, d, room)
	told = of(x)
	d.Arm(1 + r.Intn(40))
	for {
		b := make([]byte, r.Intn(room*64+1))
		r.Read(b)
		var e api.Errno
		if r.Intn(3) == 0 {
			more, e = content{told.epoch + 1, b, nil}, x.Keep(b)
		} else {
			more, e = told.with(b), x.Append(b)
		}
		switch e {
		case api.ErrDead:
			if got := of(x); !got.is(told) {
				t.Fatalf("at the stop: %v, want %v", got, told)
			}
			return told, more
		case api.ErrFull:
			continue
		case api.OK:
			told = more
		}
		if got := of(x); e != api.OK || !got.is(told) {
			t.Fatalf("behind a call: %v, %v, want %v", e, got, told)
		}
	}
}

// keeps tells all ways in which writes may stay, up to 64 of them.
func keeps(r *rand.Rand, waiting int) [][]bool {
	var out [][]bool
	for n := range min(1<<waiting, 64) {
		keep := make([]bool, waiting)
		for i := range keep {
			keep[i] = n>>i&1 == 1
			if waiting > 6 {
				keep[i] = r.Intn(2) == 1
			}
		}
		out = append(out, keep)
	}
	return out
}

// P5.4
func TestBehindEachStop(t *testing.T) {
	r := rand.New(rand.NewSource(5))
	seen := map[bool]int{} // how often the call that the stop fell into was there
	for range 200 {
		room := 1 + r.Intn(4)
		d := disk(t, 2+2*room+1+r.Intn(20))
		for range 5 {
			told, more := stop(t, r, d, room)
			all := keeps(r, d.Waiting())
			for _, keep := range all {
				got := of(open(t, d.Restart(keep), room))
				if !got.is(told) && !got.is(more) {
					t.Fatalf("behind a stop: %v, want %v, or %v", got, told, more)
				}
				seen[got.is(more)]++
			}
			d = d.Restart(all[r.Intn(len(all))])
		}
	}
	if seen[true] == 0 || seen[false] == 0 {
		t.Errorf("not each way was seen: %v", seen)
	}
}
