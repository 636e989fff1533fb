// Package disk: sectors that lose power.
package disk

import (
	"cmp"
	"slices"
	"strings"

	"beguinage/api"
)

// owners counts the warden, who is owner 0, beside the houses.
const owners = api.MaxHouses + 1

type sector [api.Block]byte

// write is a write that waits. Its order is counted from 1 on over all owners,
// because writes of several owners may meet in one sector.
type write struct {
	order, at int
	bytes     string
}

// Disk is sectors.
type Disk struct {
	durable []sector
	waits   [owners][]write
	writes  int
	left    int // writes until the power fails; 0: no Cut is set
	down    bool
}

// New is a disk of bytes 0.
func New(sectors int) *Disk {
	return &Disk{durable: make([]sector, min(max(sectors, 1), api.MaxSectors))}
}

// Sectors is how many there are.
func (d *Disk) Sectors() int { return len(d.durable) }

// Read is what was written to a sector last.
func (d *Disk) Read(i int) (string, bool) {
	if d.down || !d.has(i) {
		return "", false
	}
	if w := d.newest(i); w.order > 0 {
		return w.bytes, true
	}
	return d.Durable(i)
}

// Write is a write that waits.
func (d *Disk) Write(owner, i int, s string) bool {
	if d.down || !isOwner(owner) || !d.has(i) || len(s) != api.Block {
		return false
	}
	d.writes++
	// A clone, because s may be a piece of a text that is much longer.
	w := write{order: d.writes, at: i, bytes: strings.Clone(s)}
	d.waits[owner] = append(d.waits[owner], w)
	d.countDown()
	return true
}

// Flush is that what waits of an owner becomes durable.
func (d *Disk) Flush(owner int) bool {
	if d.down || !isOwner(owner) {
		return false
	}
	d.settle(d.waits[owner])
	d.waits[owner] = nil
	return true
}

// Forget is that what waits of an owner was never written. It needs no power:
// it takes from what a later Back could keep. Writes still counts what is
// forgotten, as it was not refused.
func (d *Disk) Forget(owner int) {
	if isOwner(owner) {
		d.waits[owner] = nil
	}
}

// Waits is how many writes of an owner wait.
func (d *Disk) Waits(owner int) int {
	if !isOwner(owner) {
		return 0
	}
	return len(d.waits[owner])
}

// Durable is what is durable of a sector.
func (d *Disk) Durable(i int) (string, bool) {
	if !d.has(i) {
		return "", false
	}
	return string(d.durable[i][:]), true
}

// Cut is that the power fails behind so many writes. It takes the place of an
// earlier Cut; power that has failed comes with Back alone.
func (d *Disk) Cut(n int) {
	d.left = max(n, 0)
	if n == 0 {
		d.down = true
	}
}

// Down tells whether there is no power.
func (d *Disk) Down() bool { return d.down }

// Back is that there is power again.
func (d *Disk) Back(keep [][]int) {
	var kept []write
	for owner, places := range keep[:min(len(keep), owners)] {
		kept = appendPlaces(kept, d.waits[owner], places)
	}
	slices.SortFunc(kept, func(a, b write) int { return cmp.Compare(a.order, b.order) })
	d.settle(kept)
	d.waits = [owners][]write{}
	d.left, d.down = 0, false
}

// Writes is how many there were.
func (d *Disk) Writes() int { return d.writes }

func isOwner(owner int) bool { return owner >= 0 && owner < owners }

func (d *Disk) has(i int) bool { return i >= 0 && i < len(d.durable) }

// newest is the write to a sector that came last of those that wait; its
// order is 0 if there is none.
func (d *Disk) newest(i int) write {
	var best write
	for owner := range d.waits {
		for _, w := range d.waits[owner] {
			if w.at == i && w.order > best.order {
				best = w
			}
		}
	}
	return best
}

func (d *Disk) countDown() {
	if d.left > 0 {
		d.left--
		d.down = d.left == 0
	}
}

func (d *Disk) settle(l []write) {
	for _, w := range l {
		copy(d.durable[w.at][:], w.bytes)
	}
}

// appendPlaces appends the writes at places, each of them once; places that
// are none are left out.
func appendPlaces(to, l []write, places []int) []write {
	named := make([]bool, len(l))
	for _, p := range places {
		if p >= 0 && p < len(l) {
			named[p] = true
		}
	}
	for p, w := range l {
		if named[p] {
			to = append(to, w)
		}
	}
	return to
}
