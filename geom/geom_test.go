package geom_test

import (
	"math"
	"testing"

	"beguinage/api"
	"beguinage/geom"
)

// The constants take the type that they are put to, as numbers written out do.
const (
	_ byte    = geom.First
	_ int64   = geom.SlotsAt
	_ float64 = geom.TableSize
	_ uint8   = geom.CopyA
	_ int8    = geom.CopyB
)

func disk(sectors, seg int) api.Geom { return api.Geom{Sectors: sectors, Seg: seg} }

// extremes are the numbers at both ends of what there is, and some beside them.
func extremes() []int {
	return []int{
		math.MinInt, math.MinInt + 1, math.MinInt + 4, math.MinInt + 48, math.MinInt / 2, math.MinInt32, -1 << 40, -65536, -64, -48, -32, -4, -1,
		math.MaxInt, math.MaxInt - 1, math.MaxInt - 48, math.MaxInt / 2, math.MaxInt / 8, math.MaxInt32, 1 << 32, 1<<32 + 64, 1 << 40, 1 << 60, 1<<61 + 32, 1 << 62,
	}
}

// good are disks that may be: each Seg with the fewest sectors, the most, and
// with a last segment that is whole, that lacks one sector, that has one.
func good() []api.Geom {
	var l []api.Geom
	for seg := 32; seg <= 64; seg++ {
		for _, sectors := range []int{48 + 8*seg, 48 + 8*seg + 1, 48 + 9*seg - 1, 48 + 9*seg, 48 + 9*seg + 1, 1000, 48 + 40*seg, 5000, 16383, 16384} {
			l = append(l, disk(sectors, seg))
		}
	}
	return l
}

// bad are disks that may not be.
func bad() []api.Geom {
	l := []api.Geom{
		{}, disk(0, 32), disk(1000, 0), disk(1000, 1), disk(1000, 31), disk(1000, 65), disk(16384, 31), disk(16384, 65),
		disk(16385, 32), disk(16385, 64), disk(303, 32), disk(559, 64), disk(48, 32), disk(47, 32), disk(1, 1),
		disk(-1000, 32), disk(1000, -32), disk(-1000, -32), disk(-304, 32), disk(-1, -1),
	}
	for _, x := range extremes() {
		l = append(l, disk(x, 32), disk(x, 64), disk(x, 0), disk(1000, x), disk(16384, x), disk(0, x))
		for _, y := range extremes() {
			l = append(l, disk(x, y))
		}
	}
	return l
}

func starts(t *testing.T, g api.Geom, seg, want int) {
	t.Helper()
	if got := geom.Start(g, seg); got != want {
		t.Errorf("Start(%v, %d): %d, want %d", g, seg, got, want)
	}
}

func isAt(t *testing.T, g api.Geom, sector, seg, at int) {
	t.Helper()
	if s, a, ok := geom.At(g, sector); s != seg || a != at || !ok {
		t.Errorf("At(%v, %d): %d, %d, %v, want %d, %d", g, sector, s, a, ok, seg, at)
	}
}

func isNowhere(t *testing.T, g api.Geom, sector int) {
	t.Helper()
	if s, a, ok := geom.At(g, sector); s != 0 || a != 0 || ok {
		t.Errorf("At(%v, %d): %d, %d, %v, want 0, 0, false", g, sector, s, a, ok)
	}
}

func slotAt(t *testing.T, house, copy, want int) {
	t.Helper()
	if got := geom.SlotAt(house, copy); got != want {
		t.Errorf("SlotAt(%d, %d): %d, want %d", house, copy, got, want)
	}
}

func room(t *testing.T, g api.Geom, segs, want int) {
	t.Helper()
	if got := geom.Room(g, api.Limit{Segs: segs}); got != want {
		t.Errorf("Room(%v, %d segments): %d, want %d", g, segs, got, want)
	}
}

// P5.1: the constants

func TestConstants(t *testing.T) {
	if geom.TableSize != 8 || geom.SlotsAt != 16 || geom.First != 48 {
		t.Errorf("TableSize, SlotsAt, First: %d, %d, %d, want 8, 16, 48", geom.TableSize, geom.SlotsAt, geom.First)
	}
	if geom.CopyA != 0 || geom.CopyB != 1 {
		t.Errorf("CopyA, CopyB: %d, %d, want 0, 1", geom.CopyA, geom.CopyB)
	}
}

func TestLimitsThatTheTestsWriteOut(t *testing.T) {
	if api.MinSeg != 32 || api.MaxSeg != 64 || api.MinSegs != 8 || api.MaxSectors != 16384 || api.MaxHouses != 16 {
		t.Error("the limits are others than those that these tests write out")
	}
}

// P5.1: Check

func TestCheckGood(t *testing.T) {
	for _, g := range good() {
		if !geom.Check(g) {
			t.Errorf("Check(%v): false", g)
		}
	}
}

func TestCheckBad(t *testing.T) {
	for _, g := range bad() {
		if geom.Check(g) {
			t.Errorf("Check(%v): true", g)
		}
	}
}

func TestCheckEdgesOfSeg(t *testing.T) {
	for seg, want := range map[int]bool{31: false, 32: true, 33: true, 63: true, 64: true, 65: false} {
		for _, sectors := range []int{600, 1000, 16384} {
			if got := geom.Check(disk(sectors, seg)); got != want {
				t.Errorf("Check(%d sectors, %d blocks): %v", sectors, seg, got)
			}
		}
	}
}

func TestCheckEdgesOfSectors(t *testing.T) {
	for seg := 32; seg <= 64; seg++ {
		least := 48 + 8*seg
		for sectors, want := range map[int]bool{least - 1: false, least: true, least + 1: true, 16383: true, 16384: true, 16385: false} {
			if got := geom.Check(disk(sectors, seg)); got != want {
				t.Errorf("Check(%d sectors, %d blocks): %v", sectors, seg, got)
			}
		}
	}
}

// P5.1: Check and Segs, at each number of sectors: segments are laid one by
// one while there is a whole one.
func TestSegsEach(t *testing.T) {
	for seg := -1; seg <= 70; seg++ {
		whole, end := 0, 48+max(seg, 1)
		for sectors := -1; sectors <= 16400; sectors++ {
			if sectors >= end {
				whole, end = whole+1, end+max(seg, 1)
			}
			want := whole
			if seg < 32 || seg > 64 || sectors > 16384 || whole < 8 {
				want = 0
			}
			g := disk(sectors, seg)
			if got := geom.Segs(g); got != want {
				t.Fatalf("Segs(%v): %d, want %d", g, got, want)
			}
			if got := geom.Check(g); got != (want > 0) {
				t.Fatalf("Check(%v): %v", g, got)
			}
		}
	}
}

func TestSegsOrdinary(t *testing.T) {
	for g, want := range map[api.Geom]int{
		disk(304, 32): 8, disk(335, 32): 8, disk(336, 32): 9, disk(1000, 33): 28, disk(1000, 64): 14,
		disk(560, 64): 8, disk(623, 64): 8, disk(624, 64): 9, disk(16384, 32): 510, disk(16384, 64): 255,
	} {
		if got := geom.Segs(g); got != want {
			t.Errorf("Segs(%v): %d, want %d", g, got, want)
		}
	}
}

func TestSegsBad(t *testing.T) {
	for _, g := range bad() {
		if got := geom.Segs(g); got != 0 {
			t.Errorf("Segs(%v): %d, want 0", g, got)
		}
	}
}

// P5.1: Start

func TestStartOrdinary(t *testing.T) {
	g := disk(1000, 33) // 28 whole segments, the last one up to sector 971
	starts(t, g, 0, 48)
	starts(t, g, 1, 81)
	starts(t, g, 10, 378)
	starts(t, g, 27, 939)
	starts(t, g, 28, 0)
	starts(t, g, -1, 0)
	starts(t, disk(304, 32), 7, 272)
	starts(t, disk(304, 32), 8, 0)
	starts(t, disk(16384, 64), 254, 16304)
	starts(t, disk(16384, 64), 255, 0)
}

func TestStartEachSegment(t *testing.T) {
	for _, g := range good() {
		sector, seg := 48, 0
		for ; sector+g.Seg <= g.Sectors; sector, seg = sector+g.Seg, seg+1 {
			starts(t, g, seg, sector)
		}
		starts(t, g, seg, 0)
		starts(t, g, seg+1, 0)
		starts(t, g, -1, 0)
		for _, x := range extremes() {
			starts(t, g, x, 0)
		}
	}
}

func TestStartOnABadDisk(t *testing.T) {
	for _, g := range bad() {
		for _, seg := range append(extremes(), 0, 1, 7, 8) {
			starts(t, g, seg, 0)
		}
	}
}

// P5.1: At

func TestAtOrdinary(t *testing.T) {
	g := disk(1000, 33)
	isNowhere(t, g, 0)
	isNowhere(t, g, 7)
	isNowhere(t, g, 16)
	isNowhere(t, g, 47)
	isAt(t, g, 48, 0, 0)
	isAt(t, g, 49, 0, 1)
	isAt(t, g, 80, 0, 32)
	isAt(t, g, 81, 1, 0)
	isAt(t, g, 113, 1, 32)
	isAt(t, g, 114, 2, 0)
	isAt(t, g, 971, 27, 32)
	isNowhere(t, g, 972)
	isNowhere(t, g, 999)
	isNowhere(t, g, 1000)
	isNowhere(t, g, -1)
}

// All sectors in a row, and those that are none: a segment's end is where the
// next one begins, what does not make a whole one is in none.
func TestAtEachSector(t *testing.T) {
	for _, g := range good() {
		for sector := -100; sector < 48; sector++ {
			isNowhere(t, g, sector)
		}
		sector := 48
		for seg := 0; sector+g.Seg <= g.Sectors; seg++ {
			for at := range g.Seg {
				isAt(t, g, sector, seg, at)
				sector++
			}
		}
		for ; sector < g.Sectors+100; sector++ {
			isNowhere(t, g, sector)
		}
		for _, x := range extremes() {
			isNowhere(t, g, x)
		}
	}
}

func TestAtOnABadDisk(t *testing.T) {
	for _, g := range bad() {
		for _, sector := range append(extremes(), 0, 1, 47, 48, 49, 50, 80, 303, 304, 16383) {
			isNowhere(t, g, sector)
		}
	}
}

// P5.1: SlotAt

func TestSlotAtTheExample(t *testing.T) { slotAt(t, 1, 0, 16) }

func TestSlotAtEach(t *testing.T) {
	want := 16
	for house := 1; house <= 16; house++ {
		for _, copy := range []int{geom.CopyA, geom.CopyB} {
			slotAt(t, house, copy, want)
			want++
		}
	}
	if want != geom.First {
		t.Errorf("behind the last slot: %d, want %d", want, geom.First)
	}
	slotAt(t, 1, 1, 17)
	slotAt(t, 2, 0, 18)
	slotAt(t, 16, 0, 46)
	slotAt(t, 16, 1, 47)
}

func TestSlotAtOfNone(t *testing.T) {
	none := append(extremes(), -2, 17, 18, 32, 100)
	for _, x := range append(none, 0) {
		slotAt(t, x, 0, 0)
		slotAt(t, x, 1, 0)
		for _, y := range none {
			slotAt(t, x, y, 0)
		}
	}
	for _, y := range append(none, 2, 3) {
		for house := range 18 {
			slotAt(t, house, y, 0)
		}
	}
}

// P5.1: Room

func TestRoomOrdinary(t *testing.T) {
	room(t, disk(1000, 32), 8, 32)
	room(t, disk(1000, 33), 8, 32)
	room(t, disk(1000, 35), 8, 32)
	room(t, disk(1000, 36), 8, 36)
	room(t, disk(1000, 63), 8, 60)
	room(t, disk(1000, 64), 8, 64)
	room(t, disk(5000, 35), 10, 48)
	room(t, disk(5000, 64), 40, 576)
}

// Each Seg: for each segment behind the fourth one, as many blocks as there
// are whole fours in a segment.
func TestRoomEach(t *testing.T) {
	for _, g := range good() {
		fours := 0
		for left := g.Seg; left >= 4; left -= 4 {
			fours++
		}
		want := 0
		for segs := range 100 {
			if segs > 4 {
				want += fours
			}
			room(t, g, segs, want)
			room(t, g, -segs, 0)
		}
	}
}

func TestRoomOfFewSegs(t *testing.T) {
	g := disk(1000, 33)
	for segs, want := range map[int]int{-9: 0, -1: 0, 0: 0, 1: 0, 2: 0, 3: 0, 4: 0, 5: 8, 6: 16} {
		room(t, g, segs, want)
	}
}

func TestRoomOfVeryManySegs(t *testing.T) {
	const most = 1 << 40
	for seg, fours := range map[int]int{32: 8, 33: 8, 47: 11, 64: 16} {
		g := disk(1000, seg)
		room(t, g, most-1, (most-5)*fours)
		for _, segs := range []int{most, most + 1, most + 4, 1 << 41, 1 << 60, 1 << 62, math.MaxInt - 1, math.MaxInt} {
			room(t, g, segs, (most-4)*fours)
		}
		for _, segs := range []int{-most, -1 << 62, math.MinInt, math.MinInt + 1, math.MinInt + 3, math.MinInt + 4} {
			room(t, g, segs, 0)
		}
	}
}

// Nothing of the limit but its Segs counts; nor need it be one that may be.
func TestRoomHangsOnSegsAlone(t *testing.T) {
	g := disk(1000, 40)
	for _, x := range append(extremes(), 0, 1, 100) {
		l := api.Limit{Segs: 9, HardBlocks: x, SoftBlocks: x, HardNodes: x, SoftNodes: x, Grace: x, Budget: x}
		if got := geom.Room(g, l); got != 50 {
			t.Errorf("Room(%v, %v): %d, want 50", g, l, got)
		}
	}
}

// Nothing of the disk but its Seg counts: a house may be given more segments
// than there are.
func TestRoomHangsNotOnSectors(t *testing.T) {
	for _, sectors := range []int{368, 369, 1000, 16384} {
		room(t, disk(sectors, 40), 9, 50)
		room(t, disk(sectors, 40), 1004, 10000)
	}
}

func TestRoomOnABadDisk(t *testing.T) {
	for _, g := range bad() {
		for _, segs := range append(extremes(), 0, 4, 5, 8, 40) {
			room(t, g, segs, 0)
		}
	}
}

// P5.2

func TestAtOfStart(t *testing.T) {
	for _, g := range good() {
		for seg := range geom.Segs(g) {
			isAt(t, g, geom.Start(g, seg), seg, 0)
		}
	}
}

// A segment that is none leads to sector 0, which is in none.
func TestAtOfStartOfNone(t *testing.T) {
	for _, g := range append(good(), bad()...) {
		for _, seg := range append(extremes(), -1, geom.Segs(g), geom.Segs(g)+1) {
			isNowhere(t, g, geom.Start(g, seg))
		}
	}
}
