// Package sector is layer 1: a stand-in for a disk, whose power goes off between two writes.
package sector

import (
	"strings"
	"sync"
	"sync/atomic"

	"chandler/api"
)

const (
	powerOff = 0
	powerOn  = 1
	// noCut stands in left while no cut is set: 0 is a cut without a write left.
	noCut = -1
)

// Disk is sectors that are written one by one, whole or not at all.
type Disk struct {
	// sectors has an empty text for what was never written, so that a new disk is cheap.
	sectors []string
	writes  atomic.Int64
	// reach is one more than the highest sector written, so that 0 says that there is none.
	reach atomic.Int64
	// left is how many writes a cut leaves, or noCut.
	left  atomic.Int64
	power atomic.Int64
	once  sync.Once
	zeros string
}

// New makes a disk of n sectors of zero bytes, with the power on.
func New(n int) *Disk {
	d := &Disk{sectors: make([]string, min(max(n, 0), api.MaxSectors))}
	d.Start()
	return d
}

// Len tells how many sectors there are.
func (d *Disk) Len() int {
	if d == nil {
		return 0
	}
	return len(d.sectors)
}

// Write lets the sector hold the data, with zero bytes behind it.
func (d *Disk) Write(at int, data string) api.Errno {
	if e := d.refusal(at); e != api.OK {
		return e
	}
	if len(data) > api.Size {
		return api.ErrLong
	}
	if !d.takeWrite() {
		return api.ErrOff
	}
	d.sectors[at] = padded(data)
	d.writes.Add(1)
	d.reach.Store(max(d.reach.Load(), int64(at)+1))
	return api.OK
}

// Read answers the bytes of the sector.
func (d *Disk) Read(at int) (string, api.Errno) {
	if e := d.refusal(at); e != api.OK {
		return "", e
	}
	if s := d.sectors[at]; s != "" {
		return s, api.OK
	}
	return d.zeroSector(), api.OK
}

// Writes tells how many writes were done.
func (d *Disk) Writes() int {
	if d == nil {
		return 0
	}
	return int(d.writes.Load())
}

// Highest tells the highest sector that a write was done to, -1 if there is none.
func (d *Disk) Highest() int {
	if d == nil {
		return -1
	}
	return int(d.reach.Load()) - 1
}

// Cut lets the power go off behind n more writes.
func (d *Disk) Cut(n int) {
	if d != nil {
		d.left.Store(int64(max(n, 0)))
	}
}

// On tells whether the power is on.
func (d *Disk) On() bool {
	return d != nil && d.power.Load() == powerOn
}

// Start switches the power on, and forgets a cut.
func (d *Disk) Start() {
	if d != nil {
		d.left.Store(noCut)
		d.power.Store(powerOn)
	}
}

// refusal is what reads and writes have in common: why there is nothing to be done at a sector.
func (d *Disk) refusal(at int) api.Errno {
	switch {
	case d == nil:
		return api.ErrNil
	case !d.On():
		return api.ErrOff
	case at < 0 || at >= len(d.sectors):
		return api.ErrAt
	}
	return api.OK
}

// takeWrite takes one of the writes that a cut leaves; where none is left, the power goes off.
func (d *Disk) takeWrite() bool {
	switch d.left.Load() {
	case noCut:
		return true
	case 0:
		d.power.Store(powerOff)
		return false
	}
	d.left.Add(-1)
	return true
}

// zeroSector answers the one text that all sectors share that were never written.
func (d *Disk) zeroSector() string {
	d.once.Do(func() { d.zeros = strings.Repeat("\x00", api.Size) })
	return d.zeros
}

// padded goes by way of an array so that the caller's text is copied, also where it fills a sector.
func padded(data string) string {
	var whole [api.Size]byte
	copy(whole[:], data)
	return string(whole[:])
}
