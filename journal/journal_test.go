package journal_test

import (
	"fmt"
	"math"
	"slices"
	"strings"
	"testing"

	"chandler/api"
	"chandler/journal"
	"chandler/pack"
	"chandler/sector"
)

type (
	change = journal.Change
	// image is what each sector of a disk holds.
	image []string
)

var (
	long = strings.Repeat("x", api.Size+1)
	// nowhere are numbers that no sector of any journal has.
	nowhere = []int{math.MinInt, math.MinInt + 1, -1 << 32, -5, -1, api.MaxSectors, 1 << 32, math.MaxInt - 5, math.MaxInt - 1, math.MaxInt}
)

// full is what a sector holds behind a write of the data.
func full(data string) string { return data + strings.Repeat("\x00", api.Size-len(data)) }

// diskOf is a disk that holds the image, with the power on.
func diskOf(t *testing.T, held image) *sector.Disk {
	t.Helper()
	d := sector.New(len(held))
	for at, data := range held {
		write(t, d, at, data)
	}
	return d
}

func write(t *testing.T, d *sector.Disk, at int, data string) {
	t.Helper()
	if e := d.Write(at, data); e != api.OK {
		t.Fatalf("writing sector %d of the disk: %d", at, e)
	}
}

// imageOf is what the disk holds; its power must be on.
func imageOf(t *testing.T, d *sector.Disk) image {
	t.Helper()
	held := make(image, d.Len())
	for at := range held {
		data, e := d.Read(at)
		if e != api.OK {
			t.Fatalf("reading sector %d of the disk: %d", at, e)
		}
		held[at] = data
	}
	return held
}

func wantImage(t *testing.T, d *sector.Disk, want image) {
	t.Helper()
	for at, data := range imageOf(t, d) {
		if data != want[at] {
			t.Errorf("the disk's sector %d begins %q, want %q", at, data[:8], want[at][:8])
		}
	}
}

// used is a disk's image on which every sector holds something of its own, with a head of zero changes.
func used(sectors int) image {
	held := make(image, sectors)
	for at := range held {
		held[at] = full(fmt.Sprintf("old %d", at))
	}
	held[0] = full("")
	return held
}

// with is the image with the first count of these writes done.
func (held image) with(writes []change, count int) image {
	held = slices.Clone(held)
	for _, w := range writes[:count] {
		held[w.At] = full(w.Data)
	}
	return held
}

// writesOf is what the chapter says of how a commit is written, by the disk's own numbers.
func writesOf(room int, changes []change) []change {
	head := pack.Uint(uint64(len(changes)))
	var writes []change
	for i, c := range changes {
		head += pack.Uint(uint64(c.At))
		writes = append(writes, change{At: 1 + i, Data: c.Data})
	}
	writes = append(writes, change{At: 0, Data: head})
	for _, c := range changes {
		writes = append(writes, change{At: room + 1 + c.At, Data: c.Data})
	}
	return append(writes, change{At: 0, Data: "\x00"})
}

func open(t *testing.T, d *sector.Disk, room int) *journal.Journal {
	t.Helper()
	j, e := journal.Open(d, room)
	if e != api.OK || j == nil {
		t.Fatalf("Open with room %d = %v, %d", room, j, e)
	}
	return j
}

func wantNotOpened(t *testing.T, d *sector.Disk, room int, want api.Errno) {
	t.Helper()
	if j, e := journal.Open(d, room); e != want || j != nil {
		t.Errorf("Open with room %d = %v, %d, want nil, %d", room, j, e, want)
	}
}

func wantCommit(t *testing.T, j *journal.Journal, want api.Errno, changes ...change) {
	t.Helper()
	if e := j.Commit(changes...); e != want {
		t.Errorf("Commit of %d changes = %d, want %d", len(changes), e, want)
	}
}

func wantRead(t *testing.T, j *journal.Journal, at int, data string, want api.Errno) {
	t.Helper()
	if s, e := j.Read(at); s != data || e != want {
		t.Errorf("Read(%d) = %d bytes, %d, want %d bytes, %d", at, len(s), e, len(data), want)
	}
}

// switchOff takes the power by a refused write, so that nothing else changes.
func switchOff(t *testing.T, d *sector.Disk) {
	t.Helper()
	d.Cut(0)
	if e := d.Write(0, "lost"); e != api.ErrOff || d.On() {
		t.Fatalf("the power stays on: %d", e)
	}
}

// some are changes with a data of their own each.
func some(name string, ats ...int) []change {
	var changes []change
	for _, at := range ats {
		changes = append(changes, change{At: at, Data: fmt.Sprintf("%s %d", name, at)})
	}
	return changes
}

// firstOf are the numbers from 0 on.
func firstOf(n int) []int {
	var ats []int
	for at := range n {
		ats = append(ats, at)
	}
	return ats
}

// TestExample holds the chapter's example.
func TestExample(t *testing.T) {
	changes := []change{{At: 0, Data: "a"}, {At: 2, Data: "b"}}
	for _, c := range []struct {
		left, openWrites int
		e                api.Errno
		zero, two        string
	}{{2, 0, api.ErrOff, "", ""}, {3, 3, api.ErrOff, "a", "b"}, {6, 0, api.OK, "a", "b"}} {
		d := sector.New(10)
		j := open(t, d, 4)
		if j.Len() != 5 {
			t.Errorf("Len = %d", j.Len())
		}
		d.Cut(c.left)
		wantCommit(t, j, c.e, changes...)
		if d.Writes() != c.left {
			t.Errorf("the commit took %d writes, want %d", d.Writes(), c.left)
		}
		d.Start()
		j = open(t, d, 4)
		if d.Writes() != c.left+c.openWrites {
			t.Errorf("behind %d writes the Open took %d, want %d", c.left, d.Writes()-c.left, c.openWrites)
		}
		for at, data := range []string{c.zero, "", c.two, "", ""} {
			wantRead(t, j, at, full(data), api.OK)
		}
	}
}

// TestOpenRefused holds P3.1's errors ahead of the head's bytes, and their order.
func TestOpenRefused(t *testing.T) {
	rooms := []int{math.MinInt, -1 << 32, -1, 0, api.MaxRoom + 1, 1<<32 + 1, math.MaxInt}
	off := sector.New(10)
	write(t, off, 0, "\xff")
	switchOff(t, off)
	for _, room := range append(rooms, 1, 4, api.MaxRoom) {
		wantNotOpened(t, nil, room, api.ErrNil)
	}
	for _, d := range []*sector.Disk{sector.New(0), sector.New(10), off} {
		for _, room := range rooms {
			wantNotOpened(t, d, room, api.ErrArg)
		}
	}
	for _, room := range []int{1, 4, api.MaxRoom} {
		wantNotOpened(t, sector.New(0), room, api.ErrAt)
		wantNotOpened(t, off, room, api.ErrOff)
	}
	off.Start()
	wantNotOpened(t, off, 4, api.ErrHead)
}

// TestLen holds P3.1 of a head that has no changes, and P3.2 of Len.
func TestLen(t *testing.T) {
	for _, c := range []struct{ sectors, room, want int }{
		{1, 1, 0}, {1, api.MaxRoom, 0}, {2, 1, 0}, {3, 1, 1}, {10, 4, 5}, {10, 8, 1}, {10, 9, 0}, {10, 10, 0}, {10, 11, 0},
		{501, api.MaxRoom, 0}, {502, api.MaxRoom, 1},
		{api.MaxSectors, 1, api.MaxSectors - 2}, {api.MaxSectors, api.MaxRoom, api.MaxSectors - 501},
	} {
		d := sector.New(c.sectors)
		d.Cut(0)
		j := open(t, d, c.room)
		if j.Len() != c.want {
			t.Errorf("%d sectors with room %d: Len = %d, want %d", c.sectors, c.room, j.Len(), c.want)
		}
		if d.Writes() != 0 || !d.On() {
			t.Errorf("an Open with nothing under way writes")
		}
		wantCommit(t, j, api.ErrAt, change{At: c.want})
		wantRead(t, j, c.want, "", api.ErrAt)
		if c.want > 0 {
			wantRead(t, j, c.want-1, full(""), api.OK)
		}
	}
	var none *journal.Journal
	if none.Len() != 0 {
		t.Errorf("Len of a nil journal: %d", none.Len())
	}
}

// TestOpenHead holds P3.1 of heads, on a disk of 10 sectors with room 4: five sectors.
func TestOpenHead(t *testing.T) {
	for _, c := range []struct {
		head string
		ats  []int
	}{
		{"", nil}, {"\x00", nil}, {full(""), nil},
		{"\x01", []int{0}}, {"\x01\x00", []int{0}}, {"\x01\x03", []int{3}}, {"\x01\x04", []int{4}},
		{"\x02\x03", []int{3, 0}}, {"\x02\x00\x01", []int{0, 1}}, {"\x03\x04\x00\x02", []int{4, 0, 2}},
		{"\x04\x00\x01\x02\x03", []int{0, 1, 2, 3}}, {"\x04\x04\x03\x02\x01", []int{4, 3, 2, 1}}, {"\x04\x01\x02\x03", []int{1, 2, 3, 0}},
	} {
		wantFinished(t, 10, 4, c.head, c.ats)
	}
	greatest := firstOf(api.MaxSectors - 501)
	greatest = greatest[len(greatest)-500:]
	slices.Reverse(greatest)
	head := pack.Uint(500)
	for _, at := range greatest {
		head += pack.Uint(uint64(at))
	}
	wantFinished(t, api.MaxSectors, api.MaxRoom, head, greatest)
}

// wantFinished asks that an Open of a disk with this head writes the copies into these sectors, then the head, and nothing else.
func wantFinished(t *testing.T, sectors, room int, head string, ats []int) {
	t.Helper()
	held := used(sectors)
	held[0] = full(head)
	var writes []change
	for i, at := range ats {
		writes = append(writes, change{At: room + 1 + at, Data: held[1+i]})
	}
	if len(ats) > 0 {
		writes = append(writes, change{At: 0})
	}
	d := diskOf(t, held)
	j := open(t, d, room)
	if n := d.Writes() - sectors; n != len(writes) {
		t.Errorf("head %q: Open took %d writes, want %d", head[:min(len(head), 8)], n, len(writes))
	}
	wantImage(t, d, held.with(writes, len(writes)))
	for i, at := range ats {
		wantRead(t, j, at, held[1+i], api.OK)
	}
}

// TestOpenNoHead holds P3.1's ErrHead, on a disk of 10 sectors with room 4, and that such an Open writes nothing.
func TestOpenNoHead(t *testing.T) {
	nine := strings.Repeat("\xff", 9)
	for _, head := range []string{
		"\x00\x01", "\x00\x00\x01", full("")[1:] + "\x01", "\x00" + strings.Repeat("\xff", api.Size-1), // something behind no changes
		"\x05\x00\x01\x02\x03\x04", "\x05", "\x7f", "\xf4\x03", "\x80\x02", nine + "\x01", // more than room
		pack.Uint(1<<32 + 1), pack.Uint(1<<32) + "\x00", pack.Uint(1 << 63), pack.Uint(1<<63 + 1),
		"\x01\x05", "\x01\x06", "\x01\x09", "\x01\x7f", "\x01\x80\x01", "\x02\x00\x05", "\x02\x05", "\x01" + nine + "\x01", // no sector
		"\x01" + pack.Uint(1<<32), "\x01" + pack.Uint(1<<63), "\x01" + pack.Uint(1<<63+1), "\x01" + pack.Uint(api.MaxSectors),
		"\x02\x00\x00", "\x02", "\x02\x03\x03", "\x03\x01\x02\x01", "\x03\x01", "\x04\x00\x01\x02\x02", "\x04\x04\x01\x02\x04", // twice
		"\x01\x00\x01", "\x01\x01\x01", "\x02\x01\x00\x01", "\x04\x00\x01\x02\x03\x04", "\x01\x01" + full("")[3:] + "\x01", // something behind
		"\x80\x00", "\x81\x00\x02", "\x81\x00", "\x01\x80\x00", "\x01\x81\x00", "\x02\x01\x82\x00", // not the one form
		"\x80", "\xff", "\x01\x80", nine + "\x7f", "\x01" + nine + "\x02", strings.Repeat("\x80", api.Size), strings.Repeat("\xff", api.Size),
		"\x04" + strings.Repeat("\xff\xff\x03", 341), "\xf4\x03" + strings.Repeat("\xff\x7f", 511),
	} {
		held := used(10)
		held[0] = full(head)
		d := diskOf(t, held)
		wantNotOpened(t, d, 4, api.ErrHead)
		if d.Writes() != 10 {
			t.Errorf("head %q: Open writes", head[:min(len(head), 8)])
		}
		wantImage(t, d, held)
	}
}

// TestOpenHeadByJournal holds P3.1 of heads that are right in one journal and wrong in another.
func TestOpenHeadByJournal(t *testing.T) {
	for _, c := range []struct {
		sectors, room int
		head          string
		want          api.Errno
	}{
		{7, 4, "\x01\x01", api.OK}, {6, 4, "\x01\x01", api.ErrHead}, {6, 4, "\x01\x00", api.OK}, {5, 4, "\x01\x00", api.ErrHead},
		{2, 4, "\x01\x00", api.ErrHead}, {1, 1, "\x01\x00", api.ErrHead}, {1, 1, "", api.OK}, {1, 1, "\x00\x01", api.ErrHead},
		{10, 3, "\x04\x00\x01\x02\x03", api.ErrHead}, {10, 1, "\x02\x00\x01", api.ErrHead}, {10, 1, "\x01\x07", api.OK}, {10, 2, "\x01\x07", api.ErrHead},
		{135, 4, "\x01\x80\x01", api.OK}, {133, 4, "\x01\x80\x01", api.ErrHead}, {133, 4, "\x01\x7f", api.OK},
		{api.MaxSectors, 1, "\x01\xfd\x7f", api.OK}, {api.MaxSectors, 1, "\x01\xfe\x7f", api.ErrHead}, {api.MaxSectors, 1, "\x01\x80\x80\x01", api.ErrHead},
	} {
		d := sector.New(c.sectors)
		write(t, d, 0, c.head)
		j, e := journal.Open(d, c.room)
		if e != c.want || (j != nil) != (e == api.OK) {
			t.Errorf("%d sectors, room %d, head %q: Open = %v, %d, want %d", c.sectors, c.room, c.head, j, e, c.want)
		}
	}
}

// TestOpenCut holds P3.1 of an Open that the power ends: how many writes there are, in which order, and that the first error is answered.
func TestOpenCut(t *testing.T) {
	held := used(10)
	held[0] = full("\x03\x04\x00\x02")
	writes := []change{{At: 9, Data: held[1]}, {At: 5, Data: held[2]}, {At: 7, Data: held[3]}, {At: 0}}
	for left := range len(writes) {
		d := diskOf(t, held)
		d.Cut(left)
		wantNotOpened(t, d, 4, api.ErrOff)
		wantNotOpened(t, d, 4, api.ErrOff)
		d.Start()
		wantImage(t, d, held.with(writes, left))
	}
	d := diskOf(t, held)
	d.Cut(len(writes))
	open(t, d, 4)
	wantImage(t, d, held.with(writes, len(writes)))
	if open(t, d, 4); !d.On() {
		t.Errorf("an Open behind one that was answered OK writes")
	}
}

// TestRead holds P3.2 of Read.
func TestRead(t *testing.T) {
	var none *journal.Journal
	held := used(10)
	d := diskOf(t, held)
	j := open(t, d, 4)
	d.Cut(0)
	for range 2 { // a read takes no write
		for at := range 5 {
			wantRead(t, j, at, held[5+at], api.OK)
		}
	}
	wrong := append([]int{-4, 5, 6, 9, 10}, nowhere...)
	for _, at := range wrong {
		wantRead(t, none, at, "", api.ErrNil)
		wantRead(t, j, at, "", api.ErrAt)
	}
	switchOff(t, d)
	for _, at := range wrong {
		wantRead(t, j, at, "", api.ErrAt)
	}
	for at := range 5 {
		wantRead(t, none, at, "", api.ErrNil)
		wantRead(t, j, at, "", api.ErrOff)
	}
	if j.Len() != 5 {
		t.Errorf("Len with the power off: %d", j.Len())
	}
	d.Start()
	write(t, d, 6, "by hand")
	wantRead(t, j, 1, full("by hand"), api.OK)
}

// TestCommitRefused holds P3.3's errors, their order, and that nothing is written; also with the power off, of which nothing is told then.
func TestCommitRefused(t *testing.T) {
	held := used(10)
	d := diskOf(t, held)
	j := open(t, d, 4)
	refused := []struct {
		changes []change
		want    api.Errno
	}{
		{some("b", 0, 1, 2, 3, 4), api.ErrBig}, {some("b", 0, 0, 0, 0, 0), api.ErrBig}, {some("b", -1, -1, -1, -1, -1), api.ErrBig},
		{slices.Repeat([]change{{At: 9, Data: long}}, 5), api.ErrBig}, {some("b", firstOf(1000)...), api.ErrBig},
		{some("b", 5), api.ErrAt}, {some("b", 0, 1, 2, 5), api.ErrAt}, {some("b", -1, 0), api.ErrAt}, {some("b", -5), api.ErrAt},
		{[]change{{At: 5, Data: long}}, api.ErrAt}, {[]change{{At: -1, Data: long}, {At: 0, Data: long}}, api.ErrAt}, {some("b", 5, 5), api.ErrAt},
		{some("b", 0, 5, 0), api.ErrAt}, {[]change{{At: 0}, {At: 5}, {At: 1, Data: long}}, api.ErrAt},
		{[]change{{At: 0, Data: long}}, api.ErrLong}, {[]change{{At: 0}, {At: 1, Data: long}}, api.ErrLong},
		{[]change{{At: 0, Data: long}, {At: 5}}, api.ErrLong}, {[]change{{At: 0}, {At: 0, Data: long}}, api.ErrLong},
		{[]change{{At: 1, Data: long}, {At: 1}}, api.ErrLong}, {[]change{{At: 1, Data: long}, {At: 0}, {At: 0}}, api.ErrLong},
		{[]change{{At: 4, Data: strings.Repeat("x", 1<<20)}}, api.ErrLong},
		{some("b", 0, 0), api.ErrTwice}, {some("b", 4, 1, 2, 4), api.ErrTwice}, {some("b", 0, 3, 3, 5), api.ErrTwice},
		{[]change{{At: 2}, {At: 2}, {At: 1, Data: long}}, api.ErrTwice}, {slices.Repeat([]change{{At: 3, Data: "same"}}, 3), api.ErrTwice},
	}
	for _, at := range nowhere {
		refused = append(refused, struct {
			changes []change
			want    api.Errno
		}{some("b", 1, at), api.ErrAt})
	}
	var none *journal.Journal
	d.Cut(0)
	for range 2 {
		for _, c := range refused {
			wantCommit(t, none, api.ErrNil, c.changes...)
			wantCommit(t, j, c.want, c.changes...)
		}
		wantCommit(t, none, api.ErrNil)
		wantCommit(t, j, api.OK)
		wantCommit(t, j, api.OK, []change{}...)
		switchOff(t, d) // the second time round
	}
	wantCommit(t, j, api.ErrOff, some("b", 0)...)
	d.Start()
	wantImage(t, d, held)
	wantCommit(t, open(t, sector.New(2), 1), api.ErrBig, some("b", 0, 1)...)
	wantCommit(t, open(t, sector.New(2), 1), api.ErrAt, some("b", 0)...)
}

// commits are those that the tests below write, each on a disk of its sectors with its room.
func commits() []struct {
	sectors, room int
	changes       []change
} {
	all := "\xff\x00\x80" + strings.Repeat("z", api.Size-3)
	return []struct {
		sectors, room int
		changes       []change
	}{
		{10, 4, some("new", 0)}, {10, 4, some("new", 4)}, {10, 4, some("new", 0, 2)}, {10, 4, some("new", 2, 0)},
		{10, 4, some("new", 4, 1, 3)}, {10, 4, some("new", 3, 2, 1, 0)}, {3, 1, some("new", 0)}, {10, 1, some("new", 7)},
		{10, 4, []change{{At: 3, Data: all}, {At: 0, Data: ""}, {At: 2, Data: "\x00"}, {At: 1, Data: all[1:]}}},
		{9, 7, some("new", 0)}, {300, 20, some("new", 278, 127, 0, 128, 255, 256)},
	}
}

// TestCommitWrites holds P3.3, and the order in which a commit is written: at each write that the power goes off the disk holds what was written till then.
func TestCommitWrites(t *testing.T) {
	for _, c := range commits() {
		held, writes := used(c.sectors), writesOf(c.room, c.changes)
		if len(writes) != 2*len(c.changes)+2 {
			t.Fatalf("%d writes", len(writes))
		}
		for left := range len(writes) + 1 {
			d := diskOf(t, held)
			j := open(t, d, c.room)
			d.Cut(left)
			handed := slices.Clone(c.changes)
			want := api.ErrOff
			if left == len(writes) {
				want = api.OK
			}
			wantCommit(t, j, want, handed...)
			if n := d.Writes() - c.sectors; n != left || d.On() != (want == api.OK) || !slices.Equal(handed, c.changes) {
				t.Errorf("%d of %d writes were done, the power is on: %v; the changes: %v", n, left, d.On(), handed)
			}
			d.Start()
			wantImage(t, d, held.with(writes, left))
		}
	}
}

// TestCommitReads holds P3.3: what is read behind commits that were answered OK, by the same journal and by another one.
func TestCommitReads(t *testing.T) {
	d := sector.New(10)
	j := open(t, d, 4)
	want := []string{"", "", "", "", ""}
	for i, ats := range [][]int{{0}, {1, 2, 3, 4}, {4, 0}, {2}, {3, 2, 1, 0}, {}, {2, 4, 1}} {
		changes := some(fmt.Sprint(i), ats...)
		wantCommit(t, j, api.OK, changes...)
		for _, c := range changes {
			want[c.At] = c.Data
		}
		for at, data := range want {
			wantRead(t, j, at, full(data), api.OK)
			wantRead(t, open(t, d, 4), at, full(data), api.OK)
		}
	}
}

// TestGreatest holds P3.3 and P3.4 of as many changes as a room can hold, in sectors of the greatest numbers.
func TestGreatest(t *testing.T) {
	ats := firstOf(api.MaxSectors - 501)
	changes := some("new", ats[len(ats)-500:]...)
	d := sector.New(api.MaxSectors)
	j := open(t, d, api.MaxRoom)
	wantCommit(t, j, api.ErrBig, append(slices.Clone(changes), change{})...)
	d.Cut(700)
	wantCommit(t, j, api.ErrOff, changes...)
	d.Start()
	j = open(t, d, api.MaxRoom)
	if d.Writes() != 700+501 {
		t.Errorf("%d writes", d.Writes())
	}
	for _, c := range changes {
		wantRead(t, j, c.At, full(c.Data), api.OK)
	}
	changes = some("newer", ats[:500]...)
	wantCommit(t, j, api.OK, changes...)
	for _, c := range changes {
		wantRead(t, j, c.At, full(c.Data), api.OK)
	}
	if d.Writes() != 700+501+1002 {
		t.Errorf("%d writes", d.Writes())
	}
}

// TestPower holds P3.4: the power goes off at each write of a commit, then at each write of an Open behind it, and of the Opens behind that one.
func TestPower(t *testing.T) {
	for _, c := range commits() {
		before := used(c.sectors)
		writes := writesOf(c.room, c.changes)
		behind := before.with(writes, len(writes))
		for left := range len(writes) + 1 {
			d := diskOf(t, before)
			j := open(t, d, c.room)
			d.Cut(left)
			e := j.Commit(c.changes...)
			if (e == api.OK) != (left == len(writes)) {
				t.Errorf("a commit of %d writes, with %d left: %d", len(writes), left, e)
			}
			d.Start()
			want := before
			if left > len(c.changes) { // its head was written
				want = behind
			}
			wantOpens(t, imageOf(t, d), c.room, want[c.room+1:], 3)
		}
	}
}

// wantOpens lets the power go off at each write of an Open, so deep, and asks for the sectors that the one answered OK gives.
func wantOpens(t *testing.T, held image, room int, want image, deep int) {
	t.Helper()
	for left := range len(held) {
		d := diskOf(t, held)
		d.Cut(left)
		j, e := journal.Open(d, room)
		d.Start()
		if e == api.OK {
			for at, data := range want {
				wantRead(t, j, at, data, api.OK)
			}
			return
		}
		if e != api.ErrOff || j != nil {
			t.Fatalf("Open = %v, %d", j, e)
		}
		if deep > 1 {
			wantOpens(t, imageOf(t, d), room, want, deep-1)
		}
	}
	t.Errorf("no Open is answered OK")
}

// TestPowerAgain holds P3.4 of commits one behind another, so that older copies stand behind those of the last one.
func TestPowerAgain(t *testing.T) {
	first, second := some("first", 4, 1, 0), some("second", 0, 3)
	for one := range 2*len(first) + 3 {
		for two := range 2*len(second) + 3 {
			d := diskOf(t, used(10))
			want := used(10)[5:]
			d.Cut(one)
			open(t, d, 4).Commit(first...)
			d.Start()
			if one > len(first) {
				want = want.with(first, len(first))
			}
			j := open(t, d, 4)
			d.Cut(two)
			j.Commit(second...)
			d.Start()
			if two > len(second) {
				want = want.with(second, len(second))
			}
			j = open(t, d, 4)
			for at, data := range want {
				wantRead(t, j, at, data, api.OK)
			}
		}
	}
}

// TestNoHold holds P1 at a nil journal and at wrong arguments of every call.
func TestNoHold(t *testing.T) {
	var none *journal.Journal
	for _, at := range append([]int{0, 1}, nowhere...) {
		wantRead(t, none, at, "", api.ErrNil)
		wantCommit(t, none, api.ErrNil, change{At: at, Data: long})
		if j, e := journal.Open(nil, at); j != nil || e != api.ErrNil {
			t.Errorf("Open(nil, %d) = %v, %d", at, j, e)
		}
	}
	wantCommit(t, none, api.ErrNil, some("b", firstOf(1000)...)...)
}

// TestApart holds P2: journals of two disks have nothing to do with one another, those of one disk share what it holds.
func TestApart(t *testing.T) {
	a, b := sector.New(10), sector.New(10)
	one, same, other := open(t, a, 4), open(t, a, 4), open(t, b, 4)
	wantCommit(t, one, api.OK, some("one", 0, 2)...)
	wantRead(t, same, 2, full("one 2"), api.OK)
	wantRead(t, other, 2, full(""), api.OK)
	switchOff(t, b)
	wantCommit(t, one, api.OK, some("again", 2)...)
	wantRead(t, one, 2, full("again 2"), api.OK)
	wantRead(t, other, 2, "", api.ErrOff)
	wantCommit(t, other, api.ErrOff, some("other", 2)...)
	b.Start()
	wantRead(t, open(t, b, 4), 2, full(""), api.OK)
}

// TestKeepsNoList holds that what is handed in is not kept: a list that is changed behind its commit changes nothing.
func TestKeepsNoList(t *testing.T) {
	d := sector.New(10)
	j := open(t, d, 4)
	room := some("new", 0, 1, 2)
	wantCommit(t, j, api.OK, room[:2]...)
	if room[2] != (change{At: 2, Data: "new 2"}) {
		t.Errorf("what lies behind the list's length was written: %v", room[2])
	}
	room[0] = change{At: 3, Data: "later"}
	for at, data := range []string{"new 0", "new 1", "", "", ""} {
		wantRead(t, j, at, full(data), api.OK)
		wantRead(t, open(t, d, 4), at, full(data), api.OK)
	}
}
