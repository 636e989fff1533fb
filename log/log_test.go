package log_test

import (
	"encoding/binary"
	"hash/crc32"
	"math"
	"math/rand"
	"slices"
	"strings"
	"testing"

	"beguinage/api"
	"beguinage/chunk"
	"beguinage/disk"
	"beguinage/log"
)

const (
	bytes   = 256
	first   = 48 // the first segment's first sector
	mostPay = 24
	tick    = 1 << 40
	house   = 2
	gen     = 9
)

// least is the disk of as few segments as may be, of 32 blocks each.
var least = api.Geom{Sectors: first + 8*32, Seg: 32}

// geoms are of the least, an odd, and the greatest number of blocks a segment;
// some have sectors at their end that are in no segment.
func geoms() []api.Geom {
	return []api.Geom{
		least,
		{Sectors: first + 8*33 + 5, Seg: 33},
		{Sectors: first + 9*64 + 63, Seg: 64},
		{Sectors: 1 << 14, Seg: 64},
	}
}

// begin is a slot with another number in each field.
func begin(seg, at, next int) api.Slot {
	return api.Slot{
		Num: 4, Life: 6, Clock: 11, Seg: seg, At: at, Next: next, Seq: 100,
		Map: [4]int{51, 52, 53, 54}, SinceBlocks: 12, SinceNodes: 13,
	}
}

// load is a head and n blocks of any bytes, others for each seed.
func load(n int, seed int) (api.Head, []string) {
	r := rand.New(rand.NewSource(int64(seed)))
	h := api.Head{Clock: r.Intn(tick + 1), SinceBlocks: r.Intn(tick + 2), SinceNodes: r.Intn(tick + 2)}
	var l []string
	for range n {
		h.List = append(h.List, api.Entry{Kind: api.Data, Node: 1 + r.Intn(255), Part: r.Intn(588)})
		l = append(l, noise(r))
	}
	return h, l
}

func noise(r *rand.Rand) string {
	b := make([]byte, bytes)
	r.Read(b)
	return string(b)
}

func all(b byte) string { return strings.Repeat(string([]byte{b}), bytes) }

// plain is what P13.1 and P8.1 say of a chunk's blocks, the head's first.
func plain(h api.Head, blocks []string) []string {
	b := []byte("BGCH")
	number := func(v, n int) { b = append(b, binary.LittleEndian.AppendUint64(nil, uint64(v))[:n]...) }
	number(h.House, 1)
	number(h.Gen, 2)
	number(h.Life, 3)
	number(h.Seq, 6)
	number(h.Next, 2)
	number(h.Clock, 6)
	number(h.SinceBlocks, 6)
	number(h.SinceNodes, 6)
	number(len(h.List), 1)
	for _, e := range h.List {
		number(e.Kind, 1)
		number(e.Node, 1)
		number(e.Part, 2)
	}
	b = append(b, make([]byte, bytes-4-len(b))...)
	sum := crc32.ChecksumIEEE([]byte(string(b) + strings.Join(blocks, "")))
	return append([]string{string(binary.LittleEndian.AppendUint32(b, sum))}, blocks...)
}

// model is what P14.1 and P14.2 say, written plainly.
type model struct {
	seg        int // blocks of a segment
	house, gen int
	x          api.Slot
	free       []int
	now        []string // what a Read of each sector answers
	durable    []string
	waits      []int // the sectors of the house's writes that wait
}

func newModel(g api.Geom, house, gen int, x api.Slot, free []int) *model {
	nought := slices.Repeat([]string{all(0)}, g.Sectors)
	return &model{seg: g.Seg, house: house, gen: gen, x: x, free: slices.Clone(free), now: nought, durable: slices.Clone(nought)}
}

func (m *model) fits(n int) bool {
	return n >= 0 && n <= mostPay && (m.x.At+1+n <= m.seg || len(m.free) > 0)
}

func (m *model) append(h api.Head, blocks []string) []int {
	if m.x.At+1+len(blocks) > m.seg {
		m.x.Seg, m.x.At, m.x.Next = m.x.Next, 0, m.free[0]
		m.free = m.free[1:]
	}
	h.House, h.Gen, h.Life, h.Seq, h.Next = m.house, m.gen, m.x.Life, m.x.Seq, m.x.Next
	at := first + m.x.Seg*m.seg + m.x.At
	var sectors []int
	for i, block := range plain(h, blocks) {
		m.now[at+i] = block
		if i > 0 {
			sectors = append(sectors, at+i)
		}
	}
	for _, i := range append(slices.Clone(sectors), m.waits...) {
		m.durable[i] = m.now[i]
	}
	m.waits = []int{at}
	m.x.At += 1 + len(blocks)
	m.x.Seq++
	m.x.Clock, m.x.SinceBlocks, m.x.SinceNodes = h.Clock, h.SinceBlocks, h.SinceNodes
	return sectors
}

// reads and durables are all sectors of a disk.
func reads(d *disk.Disk) []string { return sectors(d, d.Read) }

func durables(d *disk.Disk) []string { return sectors(d, d.Durable) }

func sectors(d *disk.Disk, ask func(i int) (string, bool)) []string {
	l := make([]string, d.Sectors())
	for i := range l {
		l[i], _ = ask(i)
	}
	return l
}

// differs is the first sector in which two disks differ; below 0: none.
func differs(a, b []string) int {
	for i := range a {
		if a[i] != b[i] {
			return i
		}
	}
	return -1
}

func isAt(t *testing.T, what string, l *log.Log, x api.Slot, free []int) {
	t.Helper()
	if l.Place() != x {
		t.Errorf("%s: Place %+v, want %+v", what, l.Place(), x)
	}
	if !slices.Equal(l.Free(), free) {
		t.Errorf("%s: Free %v, want %v", what, l.Free(), free)
	}
}

// appends holds an Append, and what it leaves, against the model.
func appends(t *testing.T, what string, d *disk.Disk, l *log.Log, m *model, h api.Head, blocks []string) {
	t.Helper()
	was := d.Writes()
	want := m.append(h, blocks)
	got, ok := l.Append(h, blocks)
	if !ok || !slices.Equal(got, want) {
		t.Fatalf("%s: Append of %d blocks: %v, %v, want %v", what, len(blocks), got, ok, want)
	}
	isAt(t, what, l, m.x, m.free)
	if d.Writes() != was+1+len(blocks) {
		t.Errorf("%s: %d writes for %d blocks", what, d.Writes()-was, len(blocks))
	}
	if d.Waits(m.house) != 1 {
		t.Errorf("%s: %d wait", what, d.Waits(m.house))
	}
	if i := differs(reads(d), m.now); i >= 0 {
		t.Fatalf("%s: sector %d is another one", what, i)
	}
	if i := differs(durables(d), m.durable); i >= 0 {
		t.Fatalf("%s: sector %d is another one once it is durable", what, i)
	}
}

// appendsNot holds that an Append is refused and that nothing is turned: where
// nothing is written and as much waits as did, nothing is flushed either.
func appendsNot(t *testing.T, what string, d *disk.Disk, l *log.Log, h api.Head, blocks []string) {
	t.Helper()
	x, free, writes := l.Place(), l.Free(), d.Writes()
	var waits []int
	for owner := range 17 {
		waits = append(waits, d.Waits(owner))
	}
	got, ok := l.Append(h, blocks)
	if ok || len(got) != 0 {
		t.Errorf("%s: Append of %d blocks: %v, %v", what, len(blocks), got, ok)
	}
	isAt(t, what, l, x, free)
	if d.Writes() != writes {
		t.Errorf("%s: the disk is turned", what)
	}
	for owner, want := range waits {
		if d.Waits(owner) != want {
			t.Errorf("%s: of owner %d %d wait, and %d did", what, owner, d.Waits(owner), want)
		}
	}
}

func fits(t *testing.T, what string, l *log.Log, m *model) {
	t.Helper()
	for n := -3; n < mostPay+4; n++ {
		if got := l.Fits(n); got != m.fits(n) {
			t.Errorf("%s: Fits(%d): %v, at %+v, free %v", what, n, got, m.x, m.free)
		}
	}
	for _, n := range []int{math.MinInt, math.MinInt + 1, -1 << 32, 1000, 1 << 32, math.MaxInt - 1, math.MaxInt} {
		if l.Fits(n) {
			t.Errorf("%s: Fits(%d)", what, n)
		}
	}
}

// pair is a new disk with a log, and the model of both.
func pair(g api.Geom, x api.Slot, free []int) (*disk.Disk, *log.Log, *model) {
	d := disk.New(g.Sectors)
	return d, log.New(d, g, house, gen, x, free), newModel(g, house, gen, x, free)
}

func TestLimitsThatTheTestsWriteOut(t *testing.T) {
	if api.Block != bytes || api.MaxPay != mostPay || api.MaxTick != tick || api.MinSeg != 32 || api.MaxSeg != 64 || api.MaxHouses != 16 {
		t.Error("the limits are others than those that these tests write out")
	}
}

// P14.1

func TestPlaceAndFreeAreWhatIsHandedIn(t *testing.T) {
	for _, x := range []api.Slot{
		{}, begin(5, 0, 1), begin(0, 32, 7), begin(7, 31, 0), begin(1, 1000, 1),
		{Num: 1 << 40, Life: 1<<20 - 1, Clock: tick, Seg: 65535, At: 64, Next: 65535, Seq: 1 << 40, Map: [4]int{1, 2, 3, 16383}, SinceBlocks: tick + 1, SinceNodes: tick + 1},
		{Num: -1, Life: -2, Clock: -3, Seg: -4, At: -5, Next: -6, Seq: -7, Map: [4]int{-8}, SinceBlocks: -9, SinceNodes: -10},
		{Seg: math.MinInt, At: math.MaxInt, Next: math.MinInt, Seq: math.MaxInt},
	} {
		for _, free := range [][]int{nil, {}, {3}, {3, 6}, {6, 3, 6, 6}, {-1, 65536, 0, math.MinInt, math.MaxInt}} {
			d, l, _ := pair(least, x, free)
			for range 2 {
				isAt(t, "new", l, x, free)
			}
			if d.Writes() != 0 {
				t.Error("New writes")
			}
		}
	}
}

func TestGiveIsBehindTheOthers(t *testing.T) {
	for _, free := range [][]int{nil, {}, {3}, {3, 6, 2}} {
		_, l, _ := pair(least, begin(5, 0, 1), free)
		want := slices.Clone(free)
		for _, seg := range []int{4, 0, 4, 3, 7, -1, 65536, math.MaxInt} {
			l.Give(seg)
			want = append(want, seg)
			isAt(t, "given", l, begin(5, 0, 1), want)
		}
	}
}

func TestGiveOneAndGoOnToIt(t *testing.T) {
	d, l, m := pair(least, begin(5, 32, 1), nil)
	h, blocks := load(3, 1400)
	fits(t, "none is free", l, m)
	appendsNot(t, "none is free", d, l, h, blocks)
	for i, seg := range []int{3, 0, 7} {
		l.Give(seg)
		m.free = append(m.free, seg)
		fits(t, "one is given", l, m)
		h, blocks = load(mostPay, 1401+i)
		appends(t, "one is given", d, l, m, h, blocks)
		h, blocks = load(6, 1411+i)
		appends(t, "the segment's end", d, l, m, h, blocks)
		fits(t, "none is free again", l, m)
		appendsNot(t, "none is free again", d, l, h, blocks)
	}
	if l.Place().Seg != 0 || l.Place().Next != 7 {
		t.Errorf("at %+v", l.Place())
	}
}

// What is given is gone to behind the others, in its order, and behind the
// segment that was behind already.
func TestTheOrderInWhichSegmentsAreGoneTo(t *testing.T) {
	d, l, m := pair(least, begin(5, 32, 1), []int{3, 6})
	for _, seg := range []int{2, 0} {
		l.Give(seg)
		m.free = append(m.free, seg)
	}
	h, blocks := load(20, 1420)
	var went []int
	for l.Fits(20) {
		appends(t, "a segment more", d, l, m, h, blocks)
		went = append(went, l.Place().Seg)
	}
	if !slices.Equal(went, []int{1, 3, 6, 2}) || l.Place().Next != 0 {
		t.Errorf("it went to %v, and then to %d", went, l.Place().Next)
	}
	appendsNot(t, "the end", d, l, h, blocks)
}

// P14.2: where a chunk stands

func TestTheExample(t *testing.T) {
	// 31 blocks fit, but at most MaxPay: 24 with their head, and 6 with theirs.
	d, l, m := pair(least, begin(0, 0, 1), nil)
	for i, n := range []int{24, 6} {
		fits(t, "an empty segment of 32 blocks", l, m)
		h, blocks := load(n, 1430+i)
		appends(t, "an empty segment of 32 blocks", d, l, m, h, blocks)
	}
	fits(t, "it is full", l, m)
	if x := l.Place(); x.Seg != 0 || x.At != 32 || x.Next != 1 || x.Seq != 102 {
		t.Errorf("at %+v", x)
	}
	h, blocks := load(31, 1432)
	d, l, _ = pair(least, begin(0, 0, 1), []int{2})
	d.Write(house, 20, all('w')) // it goes on waiting
	appendsNot(t, "31 blocks", d, l, h, blocks)
}

func TestEachPlaceAndEachNumberOfBlocks(t *testing.T) {
	for _, g := range geoms()[:3] {
		for at := range g.Seg + 1 {
			for n := range mostPay + 1 {
				// Around the end of the room all is tried, elsewhere a part.
				if left := g.Seg - at - 1 - n; (left < -3 || left > 3) && (at+n)%5 > 0 {
					continue
				}
				for _, free := range [][]int{nil, {4}, {6, 4, 2}} {
					d, l, m := pair(g, begin(3, at, 7), free)
					h, blocks := load(n, 1440)
					fits(t, "each place", l, m)
					if m.fits(n) {
						appends(t, "each place", d, l, m, h, blocks)
						fits(t, "behind it", l, m)
					} else {
						appendsNot(t, "each place", d, l, h, blocks)
					}
				}
			}
		}
	}
}

func TestChunksOverAllSegments(t *testing.T) {
	for i, g := range geoms() {
		segs := (g.Sectors - first) / g.Seg
		r := rand.New(rand.NewSource(int64(1450 + i)))
		order := r.Perm(segs)
		d, l, m := pair(g, begin(order[0], 0, order[1]), order[2:2+segs/2])
		given := 2 + segs/2
		for k := 0; ; k++ {
			n := r.Intn(mostPay + 1)
			if r.Intn(4) == 0 {
				n = min(max(g.Seg-m.x.At-1, 0), mostPay) // as much as there is room for
			}
			if segs < 100 || k%20 == 0 {
				fits(t, "all segments", l, m)
			}
			h, blocks := load(n, 1000*i+k)
			if !m.fits(n) {
				appendsNot(t, "all segments", d, l, h, blocks)
				if given == segs {
					break
				}
			} else if segs < 100 || k%20 == 0 {
				appends(t, "all segments", d, l, m, h, blocks)
			} else if want := m.append(h, blocks); true {
				if got, ok := l.Append(h, blocks); !ok || !slices.Equal(got, want) {
					t.Fatalf("Append of %d blocks: %v, %v, want %v", n, got, ok, want)
				}
			}
			if given < segs && (r.Intn(6) == 0 || !m.fits(n)) {
				l.Give(order[given])
				m.free = append(m.free, order[given])
				given++
			}
		}
		if differs(reads(d), m.now) >= 0 || differs(durables(d), m.durable) >= 0 {
			t.Error("the disk is another one at the end")
		}
		isAt(t, "the end", l, m.x, nil)
	}
}

// A place behind the segment's end has no room at all.
func TestAtBehindTheSegmentsEnd(t *testing.T) {
	for _, at := range []int{31, 32, 33, 64, 1000, 1 << 40, math.MaxInt - 24, math.MaxInt - 1, math.MaxInt} {
		for n := range mostPay + 1 {
			if at == 31 && n == 0 {
				continue // the last block is room for a head
			}
			h, blocks := load(n, 1460)
			d, l, _ := pair(least, begin(5, at, 1), nil)
			if l.Fits(n) {
				t.Errorf("At %d: Fits(%d)", at, n)
			}
			appendsNot(t, "behind the end, and none is free", d, l, h, blocks)
			d, l, m := pair(least, begin(5, at, 1), []int{3})
			m.x.At = 32
			fits(t, "behind the end", l, m)
			appends(t, "behind the end", d, l, m, h, blocks)
		}
	}
	// The segment behind which it goes on plays no part then.
	for _, seg := range []int{8, 65535, -1} {
		d, l, m := pair(least, begin(seg, 32, 1), []int{3})
		h, blocks := load(2, 1461)
		appends(t, "a segment that is none is behind it", d, l, m, h, blocks)
	}
}

// P14.2: what stands there

func TestTheHeadsOwnNumbersAreTheLogs(t *testing.T) {
	for _, v := range []int{0, 1, 2, 16, 17, -1, 65535, 65536, 1 << 40, math.MinInt, math.MaxInt} {
		d, l, m := pair(least, begin(5, 30, 1), []int{3})
		for i, change := range []func(h *api.Head){
			func(h *api.Head) { h.House = v }, func(h *api.Head) { h.Gen = v }, func(h *api.Head) { h.Life = v },
			func(h *api.Head) { h.Seq = v }, func(h *api.Head) { h.Next = v },
			func(h *api.Head) { h.House, h.Gen, h.Life, h.Seq, h.Next = v, v, v, v, v },
		} {
			h, blocks := load(i%3, 1470+i)
			change(&h)
			appends(t, "the head's numbers", d, l, m, h, blocks)
		}
	}
}

func TestTheHeadsClock(t *testing.T) {
	d, l, m := pair(least, begin(5, 0, 1), nil)
	for _, v := range [][3]int{{0, 0, 0}, {tick, tick + 1, tick + 1}, {1, 0, 0}, {0, 1, 0}, {0, 0, 1}, {3, 2, 1}} {
		h := api.Head{Clock: v[0], SinceBlocks: v[1], SinceNodes: v[2]}
		appends(t, "the head's clock", d, l, m, h, nil)
	}
}

func TestEachHouseAndItsNumbers(t *testing.T) {
	for n := 1; n <= 16; n++ {
		for _, gen := range []int{1, 258, 65535} {
			for _, x := range []api.Slot{{Life: 1, Seq: 1}, {Life: 1<<20 - 1, Seq: 1<<40 - 1, Next: 65535}, begin(0, 0, 1)} {
				d := disk.New(least.Sectors)
				l, m := log.New(d, least, n, gen, x, nil), newModel(least, n, gen, x, nil)
				h, blocks := load(n, 1480)
				appends(t, "each house", d, l, m, h, blocks)
				if d.Waits(n) != 1 {
					t.Errorf("of house %d %d wait", n, d.Waits(n))
				}
			}
		}
	}
}

// The numbers of the log itself may be such that no head has them.
func TestNumbersOfTheLogThatNoHeadHas(t *testing.T) {
	type numbers struct {
		house, gen int
		x          api.Slot
	}
	var l []numbers
	turn := func(change func(n *numbers)) {
		n := numbers{house: house, gen: gen, x: begin(5, 0, 1)}
		change(&n)
		l = append(l, n)
	}
	for _, v := range []int{0, -1, math.MinInt, math.MaxInt} {
		turn(func(n *numbers) { n.house = v })
		turn(func(n *numbers) { n.gen = v })
		turn(func(n *numbers) { n.x.Life = v })
		turn(func(n *numbers) { n.x.Seq = v })
	}
	turn(func(n *numbers) { n.house = 17 })
	turn(func(n *numbers) { n.gen = 65536 })
	turn(func(n *numbers) { n.x.Life = 1 << 20 })
	turn(func(n *numbers) { n.x.Seq = 1<<40 + 1 })
	turn(func(n *numbers) { n.x.Next = -1 })
	turn(func(n *numbers) { n.x.Next = 65536 })
	for _, v := range l {
		d := disk.New(least.Sectors)
		o := log.New(d, least, v.house, v.gen, v.x, []int{3})
		d.Write(v.house, 20, all('w')) // it goes on waiting
		for n := range mostPay + 1 {
			h, blocks := load(n, 1490)
			appendsNot(t, "numbers that no head has", d, o, h, blocks)
			if o.Fits(n) {
				t.Errorf("%+v: Fits(%d)", v, n)
			}
		}
		isAt(t, "numbers that no head has", o, v.x, []int{3})
	}
	// The segment that becomes the one behind is one of those numbers.
	for _, next := range []int{-1, 65536, math.MinInt, math.MaxInt} {
		d, o, _ := pair(least, begin(5, 32, 1), []int{next, 3})
		h, blocks := load(2, 1491)
		appendsNot(t, "a segment behind that no head has", d, o, h, blocks)
		if o.Fits(2) {
			t.Errorf("Fits, with %d behind", next)
		}
	}
	// The last Seq that a head has is followed by none.
	x := begin(5, 0, 1)
	x.Seq = 1 << 40
	d, o, m := pair(least, x, nil)
	h, blocks := load(2, 1492)
	appends(t, "the last Seq", d, o, m, h, blocks)
	appendsNot(t, "behind the last Seq", d, o, h, blocks)
	if o.Fits(2) {
		t.Error("Fits behind the last Seq")
	}
}

// A segment that is none has no place for a chunk: above all it is not the
// table's, where geom's Start of it would lead.
func TestPlacesThatAreInNoSegment(t *testing.T) {
	h, blocks := load(2, 1500)
	refused := func(what string, d *disk.Disk, l *log.Log) {
		t.Helper()
		d.Write(house, 20, all('w')) // it goes on waiting
		appendsNot(t, what, d, l, h, blocks)
		appendsNot(t, what, d, l, api.Head{}, nil)
		if l.Fits(0) || l.Fits(2) {
			t.Errorf("%s: it fits at %+v", what, l.Place())
		}
	}
	for _, seg := range []int{-1, 8, 9, 65535, math.MinInt, math.MaxInt} {
		for _, at := range []int{0, 16, 29} {
			d, l, _ := pair(least, begin(seg, at, 1), []int{3})
			refused("a segment that is none", d, l)
		}
	}
	for _, next := range []int{8, 65535} {
		d, l, _ := pair(least, begin(5, 32, next), []int{3})
		refused("the segment behind is none", d, l)
	}
	for _, at := range []int{-1, -32, math.MinInt, math.MinInt + 1} {
		d, l, _ := pair(least, begin(5, at, 1), []int{3})
		refused("no block of the segment", d, l)
	}
	// A disk that may not be has no segments.
	for _, g := range []api.Geom{{}, {Sectors: 304, Seg: 31}, {Sectors: 303, Seg: 32}, {Sectors: 304, Seg: math.MinInt}, {Sectors: math.MaxInt, Seg: math.MaxInt}} {
		d := disk.New(1000)
		refused("a disk that may not be", d, log.New(d, g, house, gen, begin(0, 0, 1), []int{2}))
	}
	// Both ends of the segments that there are.
	for _, seg := range []int{0, 7} {
		d, l, m := pair(least, begin(seg, 0, 1), nil)
		appends(t, "the first, the last segment", d, l, m, h, blocks)
	}
}

// P14.2: what is refused

func TestWrongBlocks(t *testing.T) {
	for _, at := range []int{0, 10, 27, 28, 29, 32} {
		d, l, _ := pair(least, begin(5, at, 1), []int{3})
		d.Write(house, 20, all('w')) // it goes on waiting
		for n := range mostPay + 1 {
			h, blocks := load(n, 1510)
			for m := range mostPay + 3 {
				if m != n {
					_, other := load(m, 1511)
					appendsNot(t, "another number of blocks", d, l, h, other)
				}
			}
			for i := range n {
				for _, wrong := range []int{0, 1, 255, 257, 512} {
					other := slices.Clone(blocks)
					other[i] = strings.Repeat("w", wrong)
					appendsNot(t, "a block of another length", d, l, h, other)
				}
			}
		}
		for _, n := range []int{25, 26, 30, 31, 32, 33, 63, 64, 255, 256, 1000} {
			h, blocks := load(n, 1512)
			appendsNot(t, "more than MaxPay", d, l, h, blocks)
		}
	}
}

func TestWrongHeads(t *testing.T) {
	entries := []api.Entry{
		{}, {Kind: 6, Node: 1}, {Kind: -1, Node: 1}, {Kind: api.Data}, {Kind: api.Data, Node: 256}, {Kind: api.Data, Node: 1, Part: 588},
		{Kind: api.Data, Node: 1, Part: -1}, {Kind: api.Ind, Node: 1, Part: 10}, {Kind: api.Ino, Node: 1, Part: 1},
		{Kind: api.Map, Node: 2}, {Kind: api.Map, Node: 1, Part: 4}, {Kind: api.Gone, Node: 1, Part: 1},
	}
	for _, at := range []int{0, 10, 29, 32} {
		d, l, _ := pair(least, begin(5, at, 1), []int{3})
		d.Write(house, 20, all('w')) // it goes on waiting
		for _, n := range []int{0, 1, 3, mostPay} {
			refused := func(change func(h *api.Head)) {
				h, blocks := load(n, 1520)
				change(&h)
				appendsNot(t, "a head that may not be", d, l, h, blocks)
			}
			for _, v := range []int{-1, tick + 1, math.MinInt, math.MaxInt} {
				refused(func(h *api.Head) { h.Clock = v })
			}
			for _, v := range []int{-1, tick + 2, math.MinInt, math.MaxInt} {
				refused(func(h *api.Head) { h.SinceBlocks = v })
				refused(func(h *api.Head) { h.SinceNodes = v })
			}
			for i := range n {
				for _, e := range entries {
					refused(func(h *api.Head) { h.List[i] = e })
				}
			}
		}
	}
}

// A refused Append leaves the next one as it would have been.
func TestRefusedAndThenAppended(t *testing.T) {
	d, l, m := pair(least, begin(5, 27, 1), []int{3, 6})
	for i := range 12 {
		n := 5 + i
		wrong, _ := load(n, 1530)
		wrong.Clock = -1
		h, blocks := load(n, 1540+i)
		if !m.fits(n) {
			l.Give(i % 3)
			m.free = append(m.free, i%3)
		}
		appendsNot(t, "refused", d, l, wrong, blocks)
		appendsNot(t, "refused", d, l, h, blocks[1:])
		appends(t, "and then appended", d, l, m, h, blocks)
	}
}

// P14.2: what is flushed, and what waits

func TestTheBlocksAreDurableAheadOfTheHead(t *testing.T) {
	for _, n := range []int{0, 1, 5, mostPay} {
		for _, at := range []int{0, 20} {
			d, l, m := pair(least, begin(5, at, 1), []int{3})
			h, blocks := load(n, 1550)
			want := m.append(h, blocks)
			d.Cut(n + 1) // the power fails behind the head, which is the last write
			got, ok := l.Append(h, blocks)
			if !ok || !d.Down() || !slices.Equal(got, want) {
				t.Fatalf("%d blocks: %v, %v", n, got, ok)
			}
			isAt(t, "the power fails behind the head", l, m.x, m.free)
			if i := differs(durables(d), m.durable); i >= 0 {
				t.Errorf("%d blocks: sector %d is another one", n, i)
			}
			if d.Waits(house) != 1 {
				t.Errorf("%d blocks: %d wait", n, d.Waits(house))
			}
			d.Back([][]int{nil, nil, {0}})
			if i := differs(durables(d), m.now); i >= 0 {
				t.Errorf("%d blocks: sector %d is another one, the head kept", n, i)
			}
		}
	}
}

func TestOtherWritesThatWait(t *testing.T) {
	for _, n := range []int{0, 1, 5, mostPay} {
		d, l, m := pair(least, begin(5, 0, 1), nil)
		waits := make([]int, 17)
		for owner := range 17 {
			for k := range 1 + owner%3 {
				i := owner + 17*k // of the table, of the slots
				d.Write(owner, i, all(byte(100+owner)))
				m.now[i] = all(byte(100 + owner))
				waits[owner]++
				if owner == house {
					m.waits = append(m.waits, i) // all that waits of the house is flushed
				}
			}
		}
		h, blocks := load(n, 1560)
		appends(t, "others' writes wait", d, l, m, h, blocks)
		waits[house] = 1
		for owner, want := range waits {
			if d.Waits(owner) != want {
				t.Errorf("%d blocks: of owner %d %d wait, want %d", n, owner, d.Waits(owner), want)
			}
		}
	}
}

// P14.2: power

func TestWithoutPower(t *testing.T) {
	for _, at := range []int{0, 10, 29, 32} {
		d, l, m := pair(least, begin(5, at, 1), []int{3})
		d.Cut(0)
		for n := range mostPay + 1 {
			h, blocks := load(n, 1570)
			appendsNot(t, "without power", d, l, h, blocks)
			if l.Fits(n) {
				t.Errorf("Fits(%d) without power", n)
			}
		}
		d.Back(nil)
		fits(t, "with power again", l, m)
		h, blocks := load(5, 1571)
		appends(t, "with power again", d, l, m, h, blocks)
	}
}

// The power fails behind each number of writes, and then each of them is kept
// that was made, or none.
func TestPowerThatFails(t *testing.T) {
	for _, n := range []int{0, 1, 2, 7, mostPay} {
		for _, at := range []int{0, 25, 31, 32} {
			for cut := range n + 1 {
				for _, kept := range []bool{false, true} {
					powerFails(t, n, at, cut, kept)
				}
			}
		}
	}
}

func powerFails(t *testing.T, n, at, cut int, kept bool) {
	t.Helper()
	x, free := begin(5, at, 1), []int{3, 6}
	d, l, m := pair(least, x, free)
	start := first + 5*32 + at
	if at+1+n > 32 {
		start = first + 32
	}
	h, blocks := load(n, 1580)
	want, places := slices.Clone(m.now), []int{}
	d.Cut(cut)
	if got, ok := l.Append(h, blocks); ok || len(got) != 0 {
		t.Fatalf("Cut(%d) of %d blocks: %v, %v", cut, n, got, ok)
	}
	isAt(t, "the power fails", l, x, free)
	if d.Writes() != cut || d.Waits(house) != cut || differs(durables(d), want) >= 0 {
		t.Errorf("Cut(%d) of %d blocks: %d writes, %d wait", cut, n, d.Writes(), d.Waits(house))
	}
	for i := range cut {
		places = append(places, i)
		if kept {
			want[start+1+i] = blocks[i] // in order, from the first one on
		}
	}
	if kept {
		d.Back([][]int{nil, nil, places})
	} else {
		d.Back(nil)
	}
	if i := differs(durables(d), want); i >= 0 {
		t.Errorf("Cut(%d) of %d blocks: sector %d is another one", cut, n, i)
	}
	// With power again the chunk stands where it would have stood.
	m.now, m.durable = want, slices.Clone(want)
	other, blocks := load(n, 1581)
	appends(t, "with power again", d, l, m, other, blocks)
}

// A disk that is too small refuses a write, too: nothing is turned but what is
// written.
func TestADiskThatIsTooSmall(t *testing.T) {
	for size := first; size < first+40; size++ {
		for _, n := range []int{0, 1, 5, mostPay} {
			d := disk.New(size)
			x := begin(0, 0, 1)
			l := log.New(d, least, house, gen, x, []int{3})
			h, blocks := load(n, 1590)
			room := max(size-first-1, 0) // for blocks, behind the head
			fits := l.Fits(n)
			got, ok := l.Append(h, blocks)
			if want := size >= first+1+n; ok != want || fits != want {
				t.Fatalf("%d sectors: Append of %d blocks: %v, Fits %v", size, n, ok, fits)
			}
			if ok {
				continue
			}
			isAt(t, "a disk that is too small", l, x, []int{3})
			if len(got) != 0 || d.Writes() != min(room, n) {
				t.Errorf("%d sectors: %v, %d writes for %d blocks", size, got, d.Writes(), n)
			}
		}
	}
}

// Fits says what an Append would answer, and turns nothing.
func TestFitsIsWhatAppendAnswers(t *testing.T) {
	r := rand.New(rand.NewSource(1600))
	for range 3000 {
		x := begin(r.Intn(9), r.Intn(36)-1, r.Intn(9))
		x.Life = r.Intn(4)
		free := []int{7, 8, 65536}[r.Intn(3):][:r.Intn(2)]
		who := []int{0, 1, 2, 15, 16, 16, 17}[r.Intn(7)]
		d := disk.New(least.Sectors)
		l := log.New(d, least, who, gen, x, free)
		if r.Intn(10) == 0 {
			d.Cut(0)
		}
		n := r.Intn(mostPay + 3)
		said := l.Fits(n)
		if said != l.Fits(n) || d.Writes() != 0 {
			t.Errorf("Fits(%d): %v, and then another, %d writes", n, said, d.Writes())
		}
		isAt(t, "Fits was asked", l, x, free)
		h, blocks := load(n, 1601)
		if _, ok := l.Append(h, blocks); ok != said {
			t.Errorf("house %d, %+v, free %v: Fits(%d): %v, Append: %v", who, x, free, n, said, ok)
		}
	}
}

// P14.3, T2: what follows

// span is where a chunk stands: its sectors from at to end.
type span struct{ at, end int }

func TestChunksDoNotOverlap(t *testing.T) {
	for i, g := range geoms() {
		segs := (g.Sectors - first) / g.Seg
		var free []int
		for seg := 2; seg < segs; seg++ {
			free = append(free, seg)
		}
		_, l, _ := pair(g, begin(0, 0, 1), free)
		r := rand.New(rand.NewSource(int64(1610 + i)))
		var spans []span
		for k := 0; k < 60; k++ {
			n := 1 + r.Intn(mostPay)
			h, blocks := load(n, k)
			at, ok := l.Append(h, blocks)
			if !ok {
				break
			}
			s := span{at[0] - 1, at[n-1] + 1}
			if (s.at-first)/g.Seg != (s.end-1-first)/g.Seg || s.end-s.at != 1+n {
				t.Errorf("%d blocks stand at %v", n, at)
			}
			for _, o := range spans {
				if s.at < o.end && o.at < s.end {
					t.Errorf("%+v is written over by %+v", o, s)
				}
			}
			spans = append(spans, s)
		}
		if len(spans) < 10 {
			t.Errorf("%d chunks", len(spans))
		}
	}
}

// The power fails anywhere, and any part of what waits is kept: each head that
// is there has its blocks, and all chunks but the last one are there.
func TestAHeadThatIsThereHasItsBlocks(t *testing.T) {
	r := rand.New(rand.NewSource(1620))
	there := make([]int, 2)
	for run := range 600 {
		// What stood on the disk is not nought, so that what is lost shows.
		d := disk.New(least.Sectors)
		for i := range least.Sectors {
			d.Write(0, i, noise(r))
		}
		d.Flush(0)
		order := r.Perm(8)
		l := log.New(d, least, house, gen, begin(order[0], r.Intn(33), order[1]), order[2:])
		d.Cut(r.Intn(120))
		var heads []api.Head
		var at []int
		for ok := true; ok; {
			n := r.Intn(mostPay + 1)
			h, blocks := load(n, run)
			was := l.Place()
			if _, ok = l.Append(h, blocks); ok {
				x := l.Place()
				h.House, h.Gen, h.Life, h.Seq, h.Next = house, gen, was.Life, was.Seq, x.Next
				heads, at = append(heads, h), append(at, first+32*x.Seg+x.At-1-n)
			}
		}
		var keep []int
		for i := range 40 {
			if r.Intn(2) == 0 {
				keep = append(keep, i)
			}
		}
		d.Back([][]int{{0, 1}, nil, keep})
		for i, h := range heads {
			_, blocks := load(len(h.List), run)
			want := plain(h, blocks)
			got := durables(d)[at[i]:][:len(want)]
			if i < len(heads)-1 && differs(got, want) >= 0 {
				t.Errorf("chunk %d of %d is lost", i, len(heads))
			}
			whole := 0
			if got[0] == want[0] {
				whole = 1
				if differs(got, want) >= 0 {
					t.Errorf("chunk %d of %d has lost a block", i, len(heads))
				}
			}
			_, _, ok := chunk.Parse(strings.Join(got, ""))
			if ok != (whole == 1) {
				t.Errorf("chunk %d of %d: Parse %v", i, len(heads), ok)
			}
			if i == len(heads)-1 {
				there[whole]++
			}
		}
	}
	if there[0] < 50 || there[1] < 50 {
		t.Errorf("the last chunk was lost, was there: %v times", there)
	}
}

// The rules for what is handed in, and for what an answer hangs on

func TestWhatIsHandedInIsNotKept(t *testing.T) {
	room := []int{3, 6, 99, 98}
	d, l, m := pair(least, begin(5, 30, 1), room[:2])
	for i := range room {
		room[i] = 70 + i
	}
	isAt(t, "the list is written over", l, begin(5, 30, 1), []int{3, 6})
	h, blocks := load(mostPay, 1630)
	list, texts := slices.Clone(h.List), slices.Clone(blocks)
	appends(t, "handed in", d, l, m, api.Head{Clock: h.Clock, List: list}, texts)
	if !slices.Equal(list, h.List) || !slices.Equal(texts, blocks) {
		t.Error("what was handed in is changed")
	}
	clear(list)
	clear(texts)
	if i := differs(reads(d), m.now); i >= 0 {
		t.Errorf("sector %d hangs on a list that was handed in", i)
	}
}

func TestWhatIsHandedInIsNotChanged(t *testing.T) {
	for _, at := range []int{0, 20, 32} {
		for _, cut := range []int{-1, 0, 2} {
			for _, short := range []bool{false, true} {
				free := []int{3, 6, 99, 98}
				d, l, _ := pair(least, begin(5, at, 1), free[:2])
				d.Cut(cut)
				h, blocks := load(3, 1640)
				if short {
					blocks[2] = "short"
				}
				// The spare room of the lists is not changed either.
				list, texts := append(slices.Clone(h.List), api.Entry{Kind: 71}), append(slices.Clone(blocks), "spare")
				wasList, was := slices.Clone(list), slices.Clone(texts)
				h.List = list[:3]
				l.Append(h, texts[:3])
				l.Give(2)
				l.Fits(3)
				if !slices.Equal(list, wasList) || !slices.Equal(texts, was) || !slices.Equal(free, []int{3, 6, 99, 98}) {
					t.Errorf("%v, %d blocks, %v", list, len(texts), free)
				}
			}
		}
	}
}

func overwrite(l []int) {
	for room, i := l[:cap(l)], 0; i < len(room); i++ {
		room[i] = -77
	}
}

func TestWhatIsAnsweredIsTheCallersOwn(t *testing.T) {
	d, l, m := pair(least, begin(5, 20, 1), []int{3, 6, 2})
	for i := range 6 {
		second := l.Free()
		overwrite(l.Free())
		isAt(t, "Free is written over", l, m.x, m.free)
		if !slices.Equal(second, m.free) {
			t.Errorf("two answers have one list: %v", second)
		}
		l.Give(i)
		m.free = append(m.free, i)
		h, blocks := load(15, 1650+i)
		want := m.append(h, blocks)
		got, ok := l.Append(h, blocks)
		if !ok || !slices.Equal(got, want) {
			t.Fatal(got, ok)
		}
		overwrite(got)
		isAt(t, "Append's answer is written over", l, m.x, m.free)
		overwrite(second)
	}
	if differs(reads(d), m.now) >= 0 {
		t.Error("the disk is another one")
	}
}

func TestTwoLogsOverOneDisk(t *testing.T) {
	d := disk.New(least.Sectors)
	free := []int{2, 4}
	a := log.New(d, least, 1, 5, begin(0, 25, 6), free)
	b := log.New(d, least, 2, 6, begin(1, 0, 3), free)
	ma, mb := newModel(least, 1, 5, begin(0, 25, 6), free), newModel(least, 2, 6, begin(1, 0, 3), free)
	// Their free segments are two lists, of the same numbers: b has no need of
	// its own.
	for i := range 8 {
		h, blocks := load(4, 1660+i)
		want := ma.append(h, blocks)
		if got, ok := a.Append(h, blocks); !ok || !slices.Equal(got, want) {
			t.Fatal(got, ok)
		}
		isAt(t, "the other one", b, mb.x, mb.free)
		if i%2 == 0 {
			h, blocks = load(i, 1670+i)
			want = mb.append(h, blocks)
			if got, ok := b.Append(h, blocks); !ok || !slices.Equal(got, want) {
				t.Fatal(got, ok)
			}
			b.Give(7)
			mb.free = append(mb.free, 7)
		}
		isAt(t, "one", a, ma.x, ma.free)
		isAt(t, "the other one", b, mb.x, mb.free)
		if d.Waits(1) != 1 || d.Waits(2) != 1 {
			t.Errorf("%d, %d wait", d.Waits(1), d.Waits(2))
		}
	}
	// What a wrote is there as if b had never been: T3.
	alone := disk.New(least.Sectors)
	c := log.New(alone, least, 1, 5, begin(0, 25, 6), free)
	for i := range 8 {
		h, blocks := load(4, 1660+i)
		c.Append(h, blocks)
	}
	for _, seg := range []int{0, 6, 2} {
		at := first + 32*seg
		if differs(reads(alone)[at:at+32], reads(d)[at:at+32]) >= 0 || differs(durables(alone)[at:at+32], durables(d)[at:at+32]) >= 0 {
			t.Errorf("segment %d hangs on the other log", seg)
		}
	}
}

func TestAnswersHangOnWhatALogHasBeenThrough(t *testing.T) {
	for range 3 {
		d, l, m := pair(least, begin(5, 10, 1), []int{3})
		for i := range 6 {
			fits(t, "again", l, m)
			h, blocks := load(6, 1680+i)
			appends(t, "again", d, l, m, h, blocks)
		}
		if want := begin(1, 21, 3); l.Place().Seg != want.Seg || l.Place().At != want.At || l.Place().Next != want.Next {
			t.Errorf("at %+v", l.Place())
		}
	}
}
