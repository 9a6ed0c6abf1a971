package sector_test

import (
	"math"
	"strings"
	"testing"
	"unsafe"

	"chandler/api"
	"chandler/sector"
)

var blank = strings.Repeat("\x00", api.Size)

// full is what a sector holds behind a write of the data.
func full(data string) string { return data + blank[len(data):] }

func wantSector(t *testing.T, d *sector.Disk, at int, want string) {
	t.Helper()
	if s, e := d.Read(at); e != api.OK || s != want {
		t.Errorf("Read(%d) = %d bytes, %d; the first ones %q, want %q", at, len(s), e, head(s), head(want))
	}
}

func wantRefused(t *testing.T, d *sector.Disk, at int, want api.Errno) {
	t.Helper()
	if s, e := d.Read(at); e != want || s != "" {
		t.Errorf("Read(%d) = %q, %d, want no text, %d", at, head(s), e, want)
	}
}

func wantWrite(t *testing.T, d *sector.Disk, at int, data string, want api.Errno) {
	t.Helper()
	if e := d.Write(at, data); e != want {
		t.Errorf("Write(%d, %d bytes) = %d, want %d", at, len(data), e, want)
	}
}

// wantCounts asks what is told with the power off, too.
func wantCounts(t *testing.T, d *sector.Disk, writes, highest int, on bool) {
	t.Helper()
	if d.Writes() != writes || d.Highest() != highest || d.On() != on {
		t.Errorf("Writes %d, Highest %d, On %v, want %d, %d, %v", d.Writes(), d.Highest(), d.On(), writes, highest, on)
	}
}

func head(s string) string { return s[:min(len(s), 16)] }

// switchOff takes the power by a refused write, so that nothing else changes.
func switchOff(t *testing.T, d *sector.Disk) {
	t.Helper()
	d.Cut(0)
	wantWrite(t, d, 0, "lost", api.ErrOff)
}

// TestNew holds P1.1.
func TestNew(t *testing.T) {
	sizes := []struct{ n, want int }{
		{math.MinInt, 0}, {-1, 0}, {0, 0}, {1, 1}, {2, 2}, {500, 500},
		{api.MaxSectors - 1, api.MaxSectors - 1}, {api.MaxSectors, api.MaxSectors},
		{api.MaxSectors + 1, api.MaxSectors}, {math.MaxInt, api.MaxSectors},
	}
	for _, c := range sizes {
		d := sector.New(c.n)
		if d.Len() != c.want {
			t.Errorf("New(%d).Len() = %d, want %d", c.n, d.Len(), c.want)
		}
		wantCounts(t, d, 0, -1, true)
		for at := range c.want {
			wantSector(t, d, at, blank)
		}
		wantRefused(t, d, c.want, api.ErrAt)
		wantWrite(t, d, c.want, "a", api.ErrAt)
		if c.want > 0 {
			wantWrite(t, d, c.want-1, "a", api.OK)
			wantCounts(t, d, 1, c.want-1, true)
		}
	}
}

// TestWrite holds P1.2 of writes that are done.
func TestWrite(t *testing.T) {
	every := make([]byte, 256)
	for i := range every {
		every[i] = byte(255 - i)
	}
	datas := []string{
		"", "a", "\x00", "a\x00b", "\xff\xfe no runes", string(every),
		strings.Repeat("x", api.Size-1), strings.Repeat("y", api.Size), "over a full one", "", blank,
	}
	d := sector.New(3)
	wantWrite(t, d, 0, "first", api.OK)
	wantWrite(t, d, 2, "last", api.OK)
	for i, data := range datas {
		wantWrite(t, d, 1, data, api.OK)
		wantSector(t, d, 1, full(data))
		wantCounts(t, d, 3+i, 2, true)
	}
	wantSector(t, d, 0, full("first"))
	wantSector(t, d, 2, full("last"))
}

// TestWriteRefused holds P1.2 of refused writes: their errors, the errors' order, and that nothing changes.
func TestWriteRefused(t *testing.T) {
	long := strings.Repeat("x", api.Size+1)
	var none *sector.Disk
	wantWrite(t, none, -1, long, api.ErrNil)
	d := sector.New(2)
	wantWrite(t, d, 0, "a", api.OK)
	d.Cut(1)
	for _, at := range []int{math.MinInt, -1, 2, 3, api.MaxSectors, math.MaxInt} {
		wantWrite(t, d, at, "b", api.ErrAt)
		wantWrite(t, d, at, long, api.ErrAt)
	}
	wantWrite(t, d, 0, long, api.ErrLong)
	wantWrite(t, d, 1, strings.Repeat("x", 1<<20), api.ErrLong)
	wantCounts(t, d, 1, 0, true)
	wantSector(t, d, 0, full("a"))
	wantSector(t, d, 1, blank)
	wantWrite(t, d, 0, "b", api.OK) // the one write is left still
	wantWrite(t, d, 1, long, api.ErrLong)
	wantWrite(t, d, 2, "c", api.ErrAt)
	wantCounts(t, d, 2, 0, true) // with no write left, too
	wantWrite(t, d, 1, "c", api.ErrOff)
	wantCounts(t, d, 2, 0, false)
	wantWrite(t, d, -1, long, api.ErrOff)
	wantWrite(t, d, 0, long, api.ErrOff)
	d.Start()
	wantSector(t, d, 0, full("b"))
	wantSector(t, d, 1, blank)
	wantCounts(t, d, 2, 0, true)
}

// TestWriteKeepsNoText holds that what is handed in is not kept and what is answered shares nothing with it.
func TestWriteKeepsNoText(t *testing.T) {
	data := strings.Repeat("z", api.Size)
	d := sector.New(1)
	wantWrite(t, d, 0, data, api.OK)
	if s, _ := d.Read(0); unsafe.StringData(s) == unsafe.StringData(data) {
		t.Errorf("the disk hands out the text that came in")
	}
}

// TestRead holds P1.3 of Read.
func TestRead(t *testing.T) {
	var none *sector.Disk
	wantRefused(t, none, 0, api.ErrNil)
	wantRefused(t, none, -1, api.ErrNil)
	d := sector.New(2)
	wantWrite(t, d, 1, "b", api.OK)
	d.Cut(0)
	for range 3 { // a read takes no write
		wantSector(t, d, 0, blank)
		wantSector(t, d, 1, full("b"))
	}
	for _, at := range []int{math.MinInt, -1, 2, math.MaxInt} {
		wantRefused(t, d, at, api.ErrAt)
	}
	wantCounts(t, d, 1, 1, true)
	switchOff(t, d)
	for _, at := range []int{math.MinInt, -1, 0, 1, 2, math.MaxInt} {
		wantRefused(t, d, at, api.ErrOff)
	}
	if d.Len() != 2 {
		t.Errorf("Len with the power off: %d", d.Len())
	}
}

// TestCounts holds P1.3 of Writes and Highest.
func TestCounts(t *testing.T) {
	d := sector.New(9)
	steps := []struct{ at, highest int }{{0, 0}, {0, 0}, {4, 4}, {2, 4}, {8, 8}, {8, 8}, {1, 8}}
	for i, c := range steps {
		wantWrite(t, d, c.at, "", api.OK)
		wantCounts(t, d, i+1, c.highest, true)
	}
	switchOff(t, d)
	wantCounts(t, d, 7, 8, false)
	d.Start()
	wantCounts(t, d, 7, 8, true)
	wantWrite(t, d, 3, "", api.OK)
	wantCounts(t, d, 8, 8, true)
}

// TestCut holds P1.4: so many writes are done, and the next one takes the power.
func TestCut(t *testing.T) {
	for _, c := range []struct{ n, done int }{{math.MinInt, 0}, {-1, 0}, {0, 0}, {1, 1}, {2, 2}, {7, 7}} {
		d := sector.New(8)
		d.Cut(c.n)
		for at := range c.done {
			wantWrite(t, d, at, "a", api.OK)
		}
		wantCounts(t, d, c.done, c.done-1, true)
		for range 2 {
			wantWrite(t, d, c.done, "b", api.ErrOff)
			wantCounts(t, d, c.done, c.done-1, false)
		}
		d.Start()
		wantSector(t, d, c.done, blank)
		for range 20 { // no cut is set any more
			wantWrite(t, d, c.done, "c", api.OK)
		}
		wantCounts(t, d, c.done+20, c.done, true)
	}
}

// TestCutForgotten holds P1.4: what a later Cut, or Start, does to a cut.
func TestCutForgotten(t *testing.T) {
	d := sector.New(1)
	later := []struct{ first, second, done int }{{0, 2, 2}, {5, 1, 1}, {3, 3, 3}, {math.MaxInt, 1, 1}, {4, -1, 0}}
	for _, c := range later {
		d.Start()
		d.Cut(c.first)
		d.Cut(c.second)
		for range c.done {
			wantWrite(t, d, 0, "a", api.OK)
		}
		wantWrite(t, d, 0, "a", api.ErrOff)
	}
	d.Start()
	d.Cut(0)
	d.Start() // also with the power on
	wantWrite(t, d, 0, "a", api.OK)
	for _, n := range []int{50, 1 << 31, 1 << 32, math.MaxInt - 1, math.MaxInt} {
		d.Cut(n)
		for range 50 {
			wantWrite(t, d, 0, "b", api.OK)
		}
	}
	switchOff(t, d)
	d.Cut(9) // a cut doesn't bring the power back
	wantWrite(t, d, 0, "c", api.ErrOff)
	if d.On() {
		t.Errorf("Cut switched the power on")
	}
	d.Cut(0)
	d.Start()
	wantWrite(t, d, 0, "d", api.OK)
	wantSector(t, d, 0, full("d"))
}

// TestNil holds P1 and what P1.1 to P1.4 say of a nil disk.
func TestNil(t *testing.T) {
	var none *sector.Disk
	for _, n := range []int{math.MinInt, -1, 0, 1, math.MaxInt} {
		none.Cut(n)
		none.Start()
		wantWrite(t, none, n, "a", api.ErrNil)
		wantRefused(t, none, n, api.ErrNil)
		wantCounts(t, none, 0, -1, false)
		if none.Len() != 0 {
			t.Errorf("Len of a nil disk: %d", none.Len())
		}
	}
}

// TestNoSectors holds P1 of a disk that has none: at every number there is no sector, so the power stays on.
func TestNoSectors(t *testing.T) {
	d := sector.New(0)
	d.Cut(0)
	for _, at := range []int{math.MinInt, -1, 0, 1, math.MaxInt} {
		wantWrite(t, d, at, "a", api.ErrAt)
		wantRefused(t, d, at, api.ErrAt)
	}
	wantCounts(t, d, 0, -1, true)
}

// TestApart holds P2.
func TestApart(t *testing.T) {
	a, b := sector.New(2), sector.New(2)
	wantWrite(t, a, 0, "a", api.OK)
	wantSector(t, b, 0, blank)
	wantCounts(t, b, 0, -1, true)
	b.Cut(0)
	wantWrite(t, a, 1, "a", api.OK)
	wantWrite(t, b, 1, "b", api.ErrOff)
	wantCounts(t, a, 2, 1, true)
	wantSector(t, a, 1, full("a"))
	a.Start()
	if b.On() {
		t.Errorf("Start of one disk switched another one on")
	}
}
