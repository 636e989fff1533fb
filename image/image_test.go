package image_test

import (
	"encoding/binary"
	"hash/crc32"
	"math"
	"math/rand"
	"strings"
	"testing"

	"beguinage/api"
	"beguinage/disk"
	"beguinage/image"
)

const (
	bytes   = 256
	houses  = 16
	slotsAt = 16 // the first house's copy 0
	size    = 60 // sectors of most disks: the table, all slots, and some behind them
	tick    = 1 << 40
	house   = 3
	gen     = 4
)

// at is a slot of a number, with another number in each field.
func at(num int) api.Slot {
	return api.Slot{
		Num: num, Life: 6, Clock: 11, Seg: 7, At: 8, Next: 9, Seq: 100 + num%1000,
		Map: [4]int{51, 52, 53, 54}, SinceBlocks: 12, SinceNodes: 13,
	}
}

// sectorOf is what P5.1 says of where a copy stands.
func sectorOf(house, copy int) int { return slotsAt + 2*house - 2 + copy }

// plain is what P7.1 says of the bytes, without a look at the numbers.
func plain(house, gen int, x api.Slot) string {
	b := []byte("BGSL")
	number := func(v, n int) { b = append(b, binary.LittleEndian.AppendUint64(nil, uint64(v))[:n]...) }
	number(house, 1)
	number(gen, 2)
	number(x.Num, 6)
	number(x.Life, 3)
	number(x.Clock, 6)
	number(x.Seg, 2)
	number(x.At, 2)
	number(x.Next, 2)
	number(x.Seq, 6)
	for _, sector := range x.Map {
		number(sector, 4)
	}
	number(x.SinceBlocks, 6)
	number(x.SinceNodes, 6)
	b = append(b, make([]byte, bytes-4-len(b))...)
	return string(binary.LittleEndian.AppendUint32(b, crc32.ChecksumIEEE(b)))
}

func all(b byte) string { return strings.Repeat(string([]byte{b}), bytes) }

func noise(r *rand.Rand) string {
	b := make([]byte, bytes)
	r.Read(b)
	return string(b)
}

// noisy is a disk that has other bytes in each sector, all of them durable.
func noisy(n int, seed int64) *disk.Disk {
	r := rand.New(rand.NewSource(seed))
	d := disk.New(n)
	for i := range n {
		d.Write(0, i, noise(r))
	}
	d.Flush(0)
	return d
}

// lay writes a sector as the warden, durably.
func lay(d *disk.Disk, i int, s string) {
	d.Write(0, i, s)
	d.Flush(0)
}

func extremes() []int {
	return []int{
		math.MinInt, math.MinInt + 1, math.MinInt / 2, math.MinInt32, -tick, -65536, -256, -17, -16, -2, -1,
		math.MaxInt, math.MaxInt - 1, math.MaxInt / 2, math.MaxInt32, tick + 1, 1 << 56, 1 << 62,
	}
}

// noHouses are numbers that no house has.
func noHouses() []int { return append(extremes(), 0, 17, 18, 255, 256, 257, 65536+3, 1<<32+3) }

// noOwners are numbers that nobody has who writes: 0 is the warden.
func noOwners() []int { return append(extremes(), 17, 18, 255, 256, 257, 65536, 1<<32) }

// noGens are numbers that no generation has.
func noGens() []int { return append(extremes(), 0, 65536, 65536+gen, 1<<32+gen) }

// state is all that may be asked of a disk.
type state struct {
	reads, durables []string
	waits           [houses + 1]int
	writes          int
	down            bool
}

func stateOf(d *disk.Disk) state {
	s := state{writes: d.Writes(), down: d.Down()}
	for i := range d.Sectors() {
		read, _ := d.Read(i)
		durable, _ := d.Durable(i)
		s.reads, s.durables = append(s.reads, read), append(s.durables, durable)
	}
	for owner := range s.waits {
		s.waits[owner] = d.Waits(owner)
	}
	return s
}

// same tells that two disks are alike, or that one is as it was.
func same(t *testing.T, what string, got, want state) {
	t.Helper()
	if got.waits != want.waits || got.writes != want.writes || got.down != want.down {
		t.Errorf("%s: waits %v, writes %d, down %v, want %v, %d, %v",
			what, got.waits, got.writes, got.down, want.waits, want.writes, want.down)
	}
	for i := range want.reads {
		if got.reads[i] != want.reads[i] {
			t.Errorf("%s: sector %d is read as %x, want %x", what, i, got.reads[i], want.reads[i])
		}
		if got.durables[i] != want.durables[i] {
			t.Errorf("%s: durable in sector %d is %x, want %x", what, i, got.durables[i], want.durables[i])
		}
	}
}

func newest(t *testing.T, what string, d *disk.Disk, house, gen int, want api.Slot) {
	t.Helper()
	before := stateOf(d)
	if x, ok := image.Newest(d, house, gen); x != want || !ok {
		t.Errorf("%s: Newest(%d, %d): %+v, %v, want %+v", what, house, gen, x, ok, want)
	}
	same(t, what, stateOf(d), before)
}

func noNewest(t *testing.T, what string, d *disk.Disk, house, gen int) {
	t.Helper()
	before := stateOf(d)
	if x, ok := image.Newest(d, house, gen); ok || x != (api.Slot{}) {
		t.Errorf("%s: Newest(%d, %d): %+v, %v", what, house, gen, x, ok)
	}
	same(t, what, stateOf(d), before)
}

// saves tells that a Save turns its copy alone, and leaves nothing that waits.
func saves(t *testing.T, what string, d *disk.Disk, house, gen int, x api.Slot) {
	t.Helper()
	want := stateOf(d)
	if !image.Save(d, house, gen, x) {
		t.Fatalf("%s: Save(%d, %d, %+v): false", what, house, gen, x)
	}
	i := sectorOf(house, x.Num%2)
	want.reads[i], want.durables[i] = plain(house, gen, x), plain(house, gen, x)
	want.writes++
	same(t, what, stateOf(d), want)
}

// savesNot tells that a Save is refused, and turns nothing.
func savesNot(t *testing.T, what string, d *disk.Disk, house, gen int, x api.Slot) {
	t.Helper()
	before := stateOf(d)
	if image.Save(d, house, gen, x) {
		t.Errorf("%s: Save(%d, %d, %+v): true", what, house, gen, x)
	}
	same(t, what, stateOf(d), before)
}

// wipesNot tells that a Wipe is refused, and turns nothing.
func wipesNot(t *testing.T, what string, d *disk.Disk, owner, house int) {
	t.Helper()
	before := stateOf(d)
	if image.Wipe(d, owner, house) {
		t.Errorf("%s: Wipe(%d, %d): true", what, owner, house)
	}
	same(t, what, stateOf(d), before)
}

func TestLimitsThatTheTestsWriteOut(t *testing.T) {
	if api.Block != bytes || api.MaxHouses != houses || api.MaxTick != tick {
		t.Error(api.Block, api.MaxHouses, api.MaxTick)
	}
}

func TestTheExample(t *testing.T) {
	d := disk.New(size)
	x := api.Slot{Num: 1, Life: 1, Seq: 1}
	saves(t, "the example", d, house, gen, x)
	newest(t, "the example", d, house, gen, x)
}

func TestSavesOneBehindTheOther(t *testing.T) {
	d := noisy(size, 1700)
	for num := 1; num <= 40; num++ {
		saves(t, "one behind the other", d, house, gen, at(num))
		newest(t, "one behind the other", d, house, gen, at(num))
	}
}

// What is saved is on the disk, whatever fails later.
func TestWhatIsSavedIsDurable(t *testing.T) {
	for num := 1; num <= 4; num++ {
		d := noisy(size, 1701)
		image.Save(d, house, gen, at(num))
		d.Cut(0)
		d.Back(nil)
		newest(t, "behind a power failure", d, house, gen, at(num))
	}
}

func TestEachHouseAndItsGenerations(t *testing.T) {
	for _, g := range []int{1, 2, 255, 256, 257, 65534, 65535} {
		d := noisy(size, 1702)
		for h := 1; h <= houses; h++ {
			noNewest(t, "nothing is saved", d, h, g)
			saves(t, "each house", d, h, g, at(2*h))
			newest(t, "each house", d, h, g, at(2*h))
			saves(t, "each house", d, h, g, at(2*h+1))
			newest(t, "each house", d, h, g, at(2*h+1))
		}
		for h := 1; h <= houses; h++ {
			newest(t, "behind all houses", d, h, g, at(2*h+1))
		}
	}
}

// nums are the least and the greatest ones, even and odd.
func nums() []int { return []int{1, 2, 3, 255, 256, 1 << 39, 1<<40 - 1, 1 << 40} }

func TestTwoNumsInEitherOrder(t *testing.T) {
	for _, a := range nums() {
		for _, b := range nums() {
			d := noisy(size, 1703)
			saves(t, "the first one", d, house, gen, at(a))
			newest(t, "the first one", d, house, gen, at(a))
			saves(t, "the second one", d, house, gen, at(b))
			want := b
			if a%2 != b%2 {
				want = max(a, b)
			}
			newest(t, "the second one", d, house, gen, at(want))
		}
	}
}

// A slot may be at the end of all its bounds.
func TestSlotsAtTheirEdges(t *testing.T) {
	least := api.Slot{Num: 1, Life: 1, Seq: 1}
	greatest := api.Slot{
		Num: 1 << 40, Life: 1<<20 - 1, Clock: tick, Seg: 65535, At: 64, Next: 65535, Seq: 1 << 40,
		Map: [4]int{16383, 16383, 16383, 16383}, SinceBlocks: tick + 1, SinceNodes: tick + 1,
	}
	d := noisy(size, 1704)
	saves(t, "the least", d, house, gen, least)
	newest(t, "the least", d, house, gen, least)
	saves(t, "the greatest", d, house, gen, greatest)
	newest(t, "the greatest", d, house, gen, greatest)
}

// A lesser number behind a greater one is saved, and is not the newest.
func TestALesserNumBehindAGreaterOne(t *testing.T) {
	d := noisy(size, 1705)
	saves(t, "9", d, house, gen, at(9))
	for _, num := range []int{8, 2, 4} {
		saves(t, "lesser", d, house, gen, at(num))
		newest(t, "lesser", d, house, gen, at(9))
	}
	saves(t, "lesser, in its place", d, house, gen, at(3))
	newest(t, "lesser, in its place", d, house, gen, at(4))
}

// A number is saved again: the slot is another one.
func TestTheSameNumAgain(t *testing.T) {
	d := noisy(size, 1706)
	x := at(6)
	saves(t, "once", d, house, gen, x)
	x.Clock++
	saves(t, "again", d, house, gen, x)
	newest(t, "again", d, house, gen, x)
}

// Newest goes by Num alone: each other field of the lesser one may be greater.
func TestTheNewestGoesByNum(t *testing.T) {
	d := noisy(size, 1707)
	lesser := api.Slot{
		Num: 6, Life: 1<<20 - 1, Clock: tick, Seg: 65535, At: 64, Next: 65535, Seq: 1 << 40,
		Map: [4]int{16383, 16383, 16383, 16383}, SinceBlocks: tick + 1, SinceNodes: tick + 1,
	}
	greater := api.Slot{Num: 7, Life: 1, Seq: 1}
	saves(t, "lesser", d, house, gen, lesser)
	saves(t, "greater", d, house, gen, greater)
	newest(t, "greater", d, house, gen, greater)
	greater.Num = 5
	saves(t, "turned round", d, house, gen, greater)
	newest(t, "turned round", d, house, gen, lesser)
}

// Bytes may stand in any copy, whatever their Num is: of two alike it is
// copy 0.
func TestEachNumInEachCopy(t *testing.T) {
	for _, a := range nums() {
		for _, b := range nums() {
			d := noisy(size, 1708)
			x, y := at(a), at(b)
			x.Clock, y.Clock = 1000, 2000
			lay(d, sectorOf(house, 0), plain(house, gen, x))
			newest(t, "copy 0 alone", d, house, gen, x)
			lay(d, sectorOf(house, 1), plain(house, gen, y))
			want := x
			if b > a {
				want = y
			}
			newest(t, "both copies", d, house, gen, want)
			lay(d, sectorOf(house, 0), all(0))
			newest(t, "copy 1 alone", d, house, gen, y)
		}
	}
}

func TestNothingSaved(t *testing.T) {
	for h := 1; h <= houses; h++ {
		noNewest(t, "an empty disk", disk.New(size), h, gen)
		noNewest(t, "a disk of other bytes", noisy(size, 1709), h, gen)
	}
}

// What is another house's, or another generation's, is none, in either copy,
// and whatever its Num is.
func TestAnotherHousesSlot(t *testing.T) {
	for _, copy := range []int{0, 1} {
		for _, s := range []string{
			plain(house+1, gen, at(50)), plain(house-1, gen, at(50)), plain(1, gen, at(50)), plain(16, gen, at(50)),
			plain(house, gen+1, at(50)), plain(house, gen-1, at(50)), plain(house, 65535, at(50)), plain(gen, house, at(50)),
		} {
			d := noisy(size, 1710)
			lay(d, sectorOf(house, copy), s)
			noNewest(t, "another's alone", d, house, gen)
			lay(d, sectorOf(house, 1-copy), plain(house, gen, at(9)))
			newest(t, "another's beside", d, house, gen, at(9))
			lay(d, sectorOf(house, 1-copy), s)
			noNewest(t, "another's twice", d, house, gen)
		}
	}
}

// A house's slot is found in its own two sectors alone.
func TestASlotInAnotherSector(t *testing.T) {
	d := disk.New(size)
	for i := range size {
		if i != sectorOf(house, 0) && i != sectorOf(house, 1) {
			lay(d, i, plain(house, gen, at(50)))
		}
	}
	for h := 1; h <= houses; h++ {
		noNewest(t, "in other sectors", d, h, gen)
	}
	saves(t, "its own", d, house, gen, at(4))
	newest(t, "its own", d, house, gen, at(4))
}

// Newest of one generation, then of another: what is saved last of a house
// stands in either copy.
func TestAnotherGenerationInTheOtherCopy(t *testing.T) {
	d := noisy(size, 1711)
	saves(t, "one generation", d, house, gen, at(7))
	saves(t, "the next one", d, house, gen+1, at(2))
	newest(t, "one generation", d, house, gen, at(7))
	newest(t, "the next one", d, house, gen+1, at(2))
	saves(t, "the next one, in its place", d, house, gen+1, at(1))
	noNewest(t, "one generation", d, house, gen)
	newest(t, "the next one", d, house, gen+1, at(2))
}

func turned(s string, bit int) string {
	b := []byte(s)
	b[bit/8] ^= 1 << (bit % 8)
	return string(b)
}

func TestABitTurned(t *testing.T) {
	for _, copy := range []int{0, 1} {
		d := disk.New(size)
		here, there := plain(house, gen, at(50)), plain(house, gen, at(9))
		mine, other := sectorOf(house, copy), sectorOf(house, 1-copy)
		for bit := range bytes * 8 {
			lay(d, mine, turned(here, bit))
			lay(d, other, there)
			if x, ok := image.Newest(d, house, gen); x != at(9) || !ok {
				t.Errorf("bit %d in copy %d: %+v, %v", bit, copy, x, ok)
			}
			lay(d, other, turned(there, bit*7%(bytes*8)))
			if x, ok := image.Newest(d, house, gen); ok || x != (api.Slot{}) {
				t.Errorf("bits in both copies: %+v, %v", x, ok)
			}
		}
	}
}

// Bytes that are no slot are none, though their sum may be right.
func TestOtherBytes(t *testing.T) {
	r := rand.New(rand.NewSource(1712))
	good := plain(house, gen, at(50))
	bad := []string{all(0), all(0xFF), all('B'), noise(r), good[1:] + "x", "x" + good[:bytes-1], good[128:] + good[:128]}
	for _, turn := range []func(x *api.Slot){
		func(x *api.Slot) { x.Num = 0 },
		func(x *api.Slot) { x.Num = 1<<40 + 1 },
		func(x *api.Slot) { x.Life = 0 },
		func(x *api.Slot) { x.Seq = 0 },
		func(x *api.Slot) { x.At = 65 },
		func(x *api.Slot) { x.Map[3] = 16384 },
	} {
		x := at(50)
		turn(&x)
		bad = append(bad, plain(house, gen, x))
	}
	for _, copy := range []int{0, 1} {
		for _, s := range bad {
			d := disk.New(size)
			lay(d, sectorOf(house, copy), s)
			noNewest(t, "no slot alone", d, house, gen)
			lay(d, sectorOf(house, 1-copy), plain(house, gen, at(9)))
			newest(t, "no slot beside", d, house, gen, at(9))
			lay(d, sectorOf(house, 1-copy), s)
			noNewest(t, "no slot twice", d, house, gen)
		}
	}
}

// What a house has written, flushed or not, is what is found: a slot that
// waits is lost with the power.
func TestASlotThatWaits(t *testing.T) {
	d := noisy(size, 1713)
	saves(t, "4", d, house, gen, at(4))
	d.Write(house, sectorOf(house, 1), plain(house, gen, at(5)))
	newest(t, "it waits", d, house, gen, at(5))
	d.Write(0, sectorOf(house, 1), all(0))
	newest(t, "nought waits over it", d, house, gen, at(4))
	d.Forget(0)
	newest(t, "nought is forgotten", d, house, gen, at(5))
	d.Back(nil)
	newest(t, "it is lost", d, house, gen, at(4))
}

func TestWipeByEachOwner(t *testing.T) {
	for owner := 0; owner <= houses; owner++ {
		for h := 1; h <= houses; h++ {
			d := noisy(size, 1714)
			lay(d, sectorOf(h, 0), plain(h, gen, at(2)))
			lay(d, sectorOf(h, 1), plain(h, gen, at(3)))
			want := stateOf(d)
			if !image.Wipe(d, owner, h) {
				t.Errorf("Wipe(%d, %d): false", owner, h)
			}
			want.writes += 2
			want.waits[owner] = 2
			want.reads[sectorOf(h, 0)], want.reads[sectorOf(h, 1)] = all(0), all(0)
			same(t, "wiped, it waits", stateOf(d), want)
			noNewest(t, "wiped, it waits", d, h, gen)
			d.Flush(owner)
			want.waits[owner] = 0
			want.durables[sectorOf(h, 0)], want.durables[sectorOf(h, 1)] = all(0), all(0)
			same(t, "wiped", stateOf(d), want)
			noNewest(t, "wiped", d, h, gen)
		}
	}
}

// A wipe that waits is lost with the power, or kept by its two places.
func TestAWipeThatIsLost(t *testing.T) {
	for _, owner := range []int{0, house, 16} {
		for kept := range 4 {
			d := noisy(size, 1715)
			image.Save(d, house, gen, at(2))
			image.Save(d, house, gen, at(3))
			image.Wipe(d, owner, house)
			keep := make([][]int, houses+1)
			for place := range 2 {
				if kept>>place&1 == 1 {
					keep[owner] = append(keep[owner], place)
				}
			}
			d.Back(keep)
			wiped := 0
			for copy := range 2 {
				if s, _ := d.Durable(sectorOf(house, copy)); s == all(0) {
					wiped++
				}
			}
			if wiped != len(keep[owner]) {
				t.Errorf("owner %d: kept %v, %d are wiped", owner, keep[owner], wiped)
			}
			if _, ok := image.Newest(d, house, gen); ok != (wiped < 2) {
				t.Errorf("owner %d: kept %v: Newest %v", owner, keep[owner], ok)
			}
		}
	}
}

// Behind a wipe a house may save again.
func TestSaveBehindAWipe(t *testing.T) {
	d := noisy(size, 1716)
	saves(t, "ahead", d, house, gen, at(8))
	saves(t, "ahead", d, house, gen, at(9))
	image.Wipe(d, 0, house)
	d.Flush(0)
	saves(t, "behind", d, house, gen+1, at(1))
	newest(t, "behind", d, house, gen+1, at(1))
	noNewest(t, "ahead", d, house, gen)
}

// What waits of an owner ahead of a wipe is neither flushed nor lost by it.
func TestAWipeBehindOtherWrites(t *testing.T) {
	d := noisy(size, 1717)
	want := noisy(size, 1717)
	for _, d := range []*disk.Disk{d, want} {
		d.Write(0, 50, all('w'))
		d.Write(house, 51, all('h'))
		d.Write(5, 52, all('o'))
	}
	image.Wipe(d, 0, house)
	want.Write(0, sectorOf(house, 0), all(0))
	want.Write(0, sectorOf(house, 1), all(0))
	same(t, "a wipe behind other writes", stateOf(d), stateOf(want))
	keep := [][]int{{0}, nil, nil, {0}}
	d.Back(keep)
	want.Back(keep)
	same(t, "what is kept of it", stateOf(d), stateOf(want))
}

func TestWipeRefused(t *testing.T) {
	d := noisy(size, 1718)
	saves(t, "ahead", d, house, gen, at(1))
	d.Write(0, 50, all('w'))
	for _, owner := range noOwners() {
		for _, h := range []int{1, house, 16} {
			wipesNot(t, "an owner that is none", d, owner, h)
		}
	}
	for _, h := range noHouses() {
		for _, owner := range []int{0, 1, house, 16} {
			wipesNot(t, "a house that is none", d, owner, h)
		}
		for _, owner := range []int{-1, 17} {
			wipesNot(t, "a house and an owner that are none", d, owner, h)
		}
	}
	d.Cut(0)
	wipesNot(t, "without power", d, 0, house)
}

// The disk takes one sector, and not the other: it ends between them, or the
// power fails there.
func TestAWipeThatIsTakenInPart(t *testing.T) {
	for h := 1; h <= houses; h++ {
		for n := sectorOf(h, 0) - 1; n <= sectorOf(h, 1)+2; n++ {
			d, want := noisy(n, 1719), noisy(n, 1719)
			a := want.Write(0, sectorOf(h, 0), all(0))
			b := want.Write(0, sectorOf(h, 1), all(0))
			if got := image.Wipe(d, 0, h); got != (a && b) {
				t.Errorf("house %d, %d sectors: %v", h, n, got)
			}
			same(t, "a disk that ends", stateOf(d), stateOf(want))
		}
		for cut := range 4 {
			d := noisy(size, 1720)
			d.Cut(cut)
			if got := image.Wipe(d, 0, h); got != (cut >= 2) {
				t.Errorf("house %d, Cut(%d): %v", h, cut, got)
			}
			if d.Waits(0) != min(cut, 2) || d.Down() != (cut <= 2) {
				t.Errorf("house %d, Cut(%d): %d wait, down %v", h, cut, d.Waits(0), d.Down())
			}
		}
	}
}

// badSlots are those of which Put says no.
func badSlots() []api.Slot {
	l := []api.Slot{{}, {Num: 1, Life: 1}, {Num: 1, Seq: 1}, {Life: 1, Seq: 1}}
	for _, turn := range []func(x *api.Slot, v int){
		func(x *api.Slot, v int) { x.Num = v },
		func(x *api.Slot, v int) { x.Life = v },
		func(x *api.Slot, v int) { x.Seq = v },
		func(x *api.Slot, v int) { x.Clock = v },
		func(x *api.Slot, v int) { x.Seg = v },
		func(x *api.Slot, v int) { x.At = v },
		func(x *api.Slot, v int) { x.Next = v },
		func(x *api.Slot, v int) { x.Map[0] = v },
		func(x *api.Slot, v int) { x.Map[3] = v },
		func(x *api.Slot, v int) { x.SinceBlocks = v },
		func(x *api.Slot, v int) { x.SinceNodes = v },
	} {
		for _, v := range []int{math.MinInt, -1, tick + 2, 1<<48 + 1, math.MaxInt} {
			x := at(5)
			turn(&x, v)
			l = append(l, x)
		}
	}
	return l
}

// What is refused turns nothing: what waits goes on waiting, too.
func TestSaveOfWhatPutSaysNoTo(t *testing.T) {
	d := noisy(size, 1721)
	saves(t, "ahead", d, house, gen, at(1))
	d.Write(house, 50, all('w'))
	d.Write(0, 51, all('w'))
	for _, x := range badSlots() {
		savesNot(t, "a slot that may not be", d, house, gen, x)
	}
	for _, h := range noHouses() {
		savesNot(t, "a house that is none", d, h, gen, at(2))
		savesNot(t, "a house that is none", d, h, gen, at(3))
	}
	for _, g := range noGens() {
		savesNot(t, "a generation that is none", d, house, g, at(2))
		savesNot(t, "a generation that is none", d, house, g, at(3))
	}
	newest(t, "behind all that", d, house, gen, at(1))
}

func TestWithoutPower(t *testing.T) {
	d := noisy(size, 1722)
	saves(t, "ahead", d, house, gen, at(1))
	saves(t, "ahead", d, house, gen, at(2))
	d.Write(house, 50, all('w'))
	d.Cut(0)
	noNewest(t, "without power", d, house, gen)
	savesNot(t, "without power", d, house, gen, at(3))
	wipesNot(t, "without power", d, 0, house)
	wipesNot(t, "without power", d, house, house)
	d.Back(nil)
	newest(t, "with power again", d, house, gen, at(2))
	saves(t, "with power again", d, house, gen, at(3))
	newest(t, "with power again", d, house, gen, at(3))
}

// The power fails at each write of a Save, and ahead of it, with some writes of
// the house that wait: it is the old slot or the new one, and with the new one
// all that waited is there.
func TestPowerThatFails(t *testing.T) {
	for waiting := range 4 {
		for cut := range waiting + 4 {
			for _, kept := range [][]int{nil, {0}, {waiting}, {0, 1, 2, 3, 4}} {
				powerFails(t, waiting, cut, kept)
			}
		}
	}
}

func powerFails(t *testing.T, waiting, cut int, kept []int) {
	t.Helper()
	d := noisy(size, 1723)
	saves(t, "the old one", d, house, gen, at(6))
	d.Cut(cut)
	for i := range waiting {
		d.Write(house, 50+i, all(byte('a'+i)))
	}
	ok := image.Save(d, house, gen, at(7))
	if ok != (cut > waiting+1) {
		t.Errorf("%d wait, Cut(%d): Save %v", waiting, cut, ok)
	}
	d.Back([][]int{nil, nil, nil, kept})
	x, found := image.Newest(d, house, gen)
	if !found || x != at(6) && x != at(7) || ok && x != at(7) {
		t.Errorf("%d wait, Cut(%d), kept %v: Newest %+v, %v", waiting, cut, kept, x, found)
	}
	if s, _ := d.Durable(sectorOf(house, 0)); s != plain(house, gen, at(6)) {
		t.Errorf("%d wait, Cut(%d): the old slot is turned", waiting, cut)
	}
	for i := range waiting {
		if s, _ := d.Durable(50 + i); x == at(7) && s != all(byte('a'+i)) {
			t.Errorf("%d wait, Cut(%d), kept %v: the new slot, but not the write %d", waiting, cut, kept, i)
		}
	}
}

// Of the three things that a Save does each stands behind the one ahead of it.
func TestTheOrderOfASave(t *testing.T) {
	d := noisy(size, 1724)
	saves(t, "the old one", d, house, gen, at(6))
	d.Write(house, 50, all('w'))
	d.Cut(1)
	if image.Save(d, house, gen, at(7)) {
		t.Error("the power has failed ahead of the last Flush")
	}
	if s, _ := d.Durable(50); s != all('w') {
		t.Error("what waited is not durable ahead of the slot")
	}
	if d.Waits(house) != 1 {
		t.Errorf("%d wait, and not the slot alone", d.Waits(house))
	}
	d.Back([][]int{nil, nil, nil, {0}})
	newest(t, "the slot is kept", d, house, gen, at(7))
	d.Write(house, 51, all('w'))
	d.Cut(1)
	image.Save(d, house, gen, at(8))
	d.Back(nil)
	newest(t, "the slot is lost", d, house, gen, at(7))
	d.Cut(2)
	if !image.Save(d, house, gen, at(8)) || d.Down() {
		t.Error("a Save is one write")
	}
}

// What waits of others waits still behind a Save.
func TestASaveBesideOthersWrites(t *testing.T) {
	for h := 1; h <= houses; h++ {
		d := noisy(size, 1725)
		for owner := 0; owner <= houses; owner++ {
			d.Write(owner, 48+owner%12, all(byte('a'+owner)))
			d.Write(owner, sectorOf(h, 0), all(byte('A'+owner)))
		}
		before := stateOf(d)
		if !image.Save(d, h, gen, at(1)) {
			t.Errorf("house %d: false", h)
		}
		after := stateOf(d)
		before.waits[h] = 0
		if after.waits != before.waits {
			t.Errorf("house %d: waits %v, want %v", h, after.waits, before.waits)
		}
		if after.durables[sectorOf(h, 0)] != all(byte('A'+h)) || after.durables[48+h%12] != all(byte('a'+h)) {
			t.Errorf("house %d: what waited of it is not durable", h)
		}
	}
}

// A disk that ends ahead of a copy refuses it; the other one is there.
func TestADiskThatEnds(t *testing.T) {
	for h := 1; h <= houses; h++ {
		for n := 1; n <= sectorOf(h, 1)+1; n++ {
			d := disk.New(n)
			even, odd := n > sectorOf(h, 0), n > sectorOf(h, 1)
			if got := image.Save(d, h, gen, at(2)); got != even {
				t.Errorf("house %d, %d sectors: Save of 2 %v", h, n, got)
			}
			if x, ok := image.Newest(d, h, gen); ok != even || even && x != at(2) {
				t.Errorf("house %d, %d sectors: Newest %+v, %v", h, n, x, ok)
			}
			if got := image.Save(d, h, gen, at(3)); got != odd {
				t.Errorf("house %d, %d sectors: Save of 3 %v", h, n, got)
			}
			if x, ok := image.Newest(d, h, gen); ok != even || odd && x != at(3) || even && !odd && x != at(2) {
				t.Errorf("house %d, %d sectors: Newest %+v, %v", h, n, x, ok)
			}
			if d.Waits(h) != 0 {
				t.Errorf("house %d, %d sectors: %d wait", h, n, d.Waits(h))
			}
		}
	}
}

// No house that may not be, and no such generation, is found: not in the
// table's sectors either, whatever stands there.
func TestNewestOfWhatMayNotBe(t *testing.T) {
	for _, h := range noHouses() {
		d := disk.New(size)
		for i := range size {
			lay(d, i, plain(h, gen, at(5)))
		}
		noNewest(t, "a house that is none", d, h, gen)
		lay(d, 0, plain(house, gen, at(5)))
		noNewest(t, "a house that is none", d, h, gen)
	}
	for _, g := range noGens() {
		d := disk.New(size)
		for i := range size {
			lay(d, i, plain(house, g, at(5)))
		}
		noNewest(t, "a generation that is none", d, house, g)
	}
}

// P16.2, at any numbers in the other copy, a slot or not.
func TestSaveLeavesTheOtherCopy(t *testing.T) {
	r := rand.New(rand.NewSource(1726))
	for range 200 {
		h, g, num := 1+r.Intn(houses), 1+r.Intn(65535), 1+r.Intn(1<<40)>>r.Intn(40)
		num = max(num, 1)
		d := disk.New(size)
		for _, s := range []string{all(0), noise(r), plain(h, g, at(num)), plain(h, 1+g%65535, at(1))} {
			other := sectorOf(h, 1-num%2)
			lay(d, other, s)
			saves(t, "beside another copy", d, h, g, at(num))
			if got, _ := d.Durable(other); got != s {
				t.Errorf("house %d: the other copy is %x, was %x", h, got, s)
			}
		}
	}
}

// Any calls of many houses, in any order, beside their own writes and power
// failures: each is what its words say, done plainly on a disk beside it.
func TestRandomCalls(t *testing.T) {
	r := rand.New(rand.NewSource(1727))
	for round := range 60 {
		n := []int{size, size, 48, 47, 21}[round%5]
		d, want := noisy(n, 1728), noisy(n, 1728)
		for range 60 {
			randomCall(t, r, d, want)
			same(t, "random calls", stateOf(d), stateOf(want))
		}
	}
}

func randomCall(t *testing.T, r *rand.Rand, d, want *disk.Disk) {
	t.Helper()
	owner, h, g := r.Intn(5), 1+r.Intn(4), 1+r.Intn(2)
	switch r.Intn(8) {
	case 0, 1, 2:
		x := at(1 + r.Intn(6))
		x.Clock = r.Intn(tick)
		s := plain(h, g, x)
		may := want.Flush(h) && want.Write(h, sectorOf(h, x.Num%2), s) && want.Flush(h)
		if got := image.Save(d, h, g, x); got != may {
			t.Errorf("Save(%d, %d, %+v): %v, want %v", h, g, x, got, may)
		}
	case 3:
		a := want.Write(owner, sectorOf(h, 0), all(0))
		b := want.Write(owner, sectorOf(h, 1), all(0))
		if got := image.Wipe(d, owner, h); got != (a && b) {
			t.Errorf("Wipe(%d, %d): %v, want %v", owner, h, got, a && b)
		}
	case 4, 5:
		i, s := 16+r.Intn(10), plain(h, g, at(1+r.Intn(6)))
		d.Write(owner, i, s)
		want.Write(owner, i, s)
	case 6:
		cut := r.Intn(4)
		d.Cut(cut)
		want.Cut(cut)
	case 7:
		keep := [][]int{{r.Intn(3)}, {r.Intn(3)}, {r.Intn(3)}, {r.Intn(3)}}
		d.Back(keep)
		want.Back(keep)
	}
	isNewest(t, d, h, g)
}

// isNewest holds Newest against what may be read of a house's two sectors: a
// slot of the few numbers that the random calls have.
func isNewest(t *testing.T, d *disk.Disk, h, g int) {
	t.Helper()
	var best int
	var bytesOf string
	for copy := range 2 {
		s, _ := d.Read(sectorOf(h, copy))
		if len(s) != bytes || s[:7] != plain(h, g, at(1))[:7] {
			continue
		}
		if num := int(s[7]); num > best {
			best, bytesOf = num, s
		}
	}
	x, ok := image.Newest(d, h, g)
	if ok != (best > 0) || ok && plain(h, g, x) != bytesOf || !ok && x != (api.Slot{}) {
		t.Errorf("Newest(%d, %d): %+v, %v, want Num %d", h, g, x, ok, best)
	}
}

// Numbers that may be none, in all places at once: nothing panics, and nothing
// is turned.
func TestWrongNumbers(t *testing.T) {
	wrong := append(extremes(), 0, 17, 65536)
	for _, n := range []int{1, 16, 17, size} {
		d := noisy(n, 1729)
		for _, a := range wrong {
			for _, b := range wrong {
				noNewest(t, "wrong numbers", d, a, b)
				savesNot(t, "wrong numbers", d, a, b, at(1))
				if a != 0 || b != 0 {
					wipesNot(t, "wrong numbers", d, a, b)
				}
			}
		}
		for _, x := range badSlots() {
			savesNot(t, "wrong numbers", d, house, gen, x)
		}
	}
}

// A slot is a value: what becomes of it behind a call is nothing to the disk.
func TestWhatIsHandedInIsNotKept(t *testing.T) {
	d := disk.New(size)
	x := at(5)
	image.Save(d, house, gen, x)
	x.Map[0], x.Num = 99, 98
	got, _ := image.Newest(d, house, gen)
	got.Map[1], got.Num = 97, 96
	newest(t, "behind it", d, house, gen, at(5))
}

// Two disks have nothing in common; one disk is the same to all that ask.
func TestAnswersHangOnTheDiskAlone(t *testing.T) {
	a, b := disk.New(size), disk.New(size)
	saves(t, "a", a, house, gen, at(5))
	noNewest(t, "b", b, house, gen)
	saves(t, "b", b, house, gen, at(4))
	newest(t, "a", a, house, gen, at(5))
	newest(t, "b", b, house, gen, at(4))
	image.Wipe(a, 0, house)
	noNewest(t, "a", a, house, gen)
	newest(t, "b", b, house, gen, at(4))
}
