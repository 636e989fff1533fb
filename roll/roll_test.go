package roll_test

import (
	"encoding/binary"
	"hash/crc32"
	"math"
	"math/rand"
	"slices"
	"strings"
	"testing"

	"beguinage/api"
	"beguinage/disk"
	"beguinage/log"
	"beguinage/roll"
)

const (
	bytes   = 256
	first   = 48 // the first segment's first sector
	mostPay = 24
	tick    = 1 << 40
	house   = 2
	gen     = 9
)

// least is the disk of as few segments as may be, of 32 blocks each.
var least = api.Geom{Sectors: first + 8*32, Seg: 32}

// geoms are of the least, an odd, and the greatest number of blocks a segment;
// some have sectors at their end that are in no segment.
func geoms() []api.Geom {
	return []api.Geom{
		least,
		{Sectors: first + 8*33 + 5, Seg: 33},
		{Sectors: first + 9*64 + 63, Seg: 64},
		{Sectors: 1 << 14, Seg: 64},
		{Sectors: 1 << 14, Seg: 32},
	}
}

func segsOf(g api.Geom) int { return (g.Sectors - first) / g.Seg }

// upTo is the numbers from 0 on, below n.
func upTo(n int) []int {
	var l []int
	for i := range n {
		l = append(l, i)
	}
	return l
}

// begin is a slot with another number in each field.
func begin(seg, at, next int) api.Slot {
	return api.Slot{
		Num: 4, Life: 6, Clock: 11, Seg: seg, At: at, Next: next, Seq: 100,
		Map: [4]int{51, 52, 53, 54}, SinceBlocks: 12, SinceNodes: 13,
	}
}

func noise(r *rand.Rand) string {
	b := make([]byte, bytes)
	r.Read(b)
	return string(b)
}

func all(b byte) string { return strings.Repeat(string([]byte{b}), bytes) }

// plain is what P13.1 and P8.1 say of a chunk's blocks, the head's first.
func plain(h api.Head, blocks []string) []string {
	b := []byte("BGCH")
	number := func(v, n int) { b = append(b, binary.LittleEndian.AppendUint64(nil, uint64(v))[:n]...) }
	number(h.House, 1)
	number(h.Gen, 2)
	number(h.Life, 3)
	number(h.Seq, 6)
	number(h.Next, 2)
	number(h.Clock, 6)
	number(h.SinceBlocks, 6)
	number(h.SinceNodes, 6)
	number(len(h.List), 1)
	for _, e := range h.List {
		number(e.Kind, 1)
		number(e.Node, 1)
		number(e.Part, 2)
	}
	b = append(b, make([]byte, bytes-4-len(b))...)
	sum := crc32.ChecksumIEEE([]byte(string(b) + strings.Join(blocks, "")))
	return append([]string{string(binary.LittleEndian.AppendUint32(b, sum))}, blocks...)
}

// piece is a chunk of n blocks at a segment and a block, that goes on with the
// slot begin; its clock, its entries and its blocks are others for each seed.
func piece(seg, at, next, n int, seed int) roll.Found {
	r := rand.New(rand.NewSource(int64(seed)))
	f := roll.Found{Seg: seg, At: at, Head: api.Head{
		House: house, Gen: gen, Life: 6, Seq: 100, Next: next,
		Clock: r.Intn(tick + 1), SinceBlocks: r.Intn(tick + 2), SinceNodes: r.Intn(tick + 2),
	}}
	for range n {
		f.Head.List = append(f.Head.List, api.Entry{Kind: api.Data, Node: 1 + r.Intn(255), Part: r.Intn(588)})
		f.Blocks = append(f.Blocks, noise(r))
	}
	return f
}

// copied is a chunk that has no list in common with another one.
func copied(f roll.Found) roll.Found {
	f.Head.List, f.Blocks = slices.Clone(f.Head.List), slices.Clone(f.Blocks)
	return f
}

// sectorOf is where a segment's block stands.
func sectorOf(g api.Geom, seg, at int) int { return first + seg*g.Seg + at }

// put writes chunks where they say that they stand, whether they may or not.
func put(d *disk.Disk, g api.Geom, l ...roll.Found) {
	for _, f := range l {
		for i, block := range plain(f.Head, f.Blocks) {
			d.Write(0, sectorOf(g, f.Seg, f.At)+i, block)
		}
	}
	d.Flush(0)
}

// onDisk is a new disk with chunks.
func onDisk(g api.Geom, l ...roll.Found) *disk.Disk {
	d := disk.New(g.Sectors)
	put(d, g, l...)
	return d
}

// behind is the slot behind chunks: what P15.1 says of x.
func behind(x api.Slot, l ...roll.Found) api.Slot {
	for _, f := range l {
		x.Seg, x.At, x.Next, x.Seq = f.Seg, f.At+1+len(f.Blocks), f.Head.Next, f.Head.Seq+1
		x.Clock, x.SinceBlocks, x.SinceNodes = f.Head.Clock, f.Head.SinceBlocks, f.Head.SinceNodes
	}
	return x
}

// model is what P15.1 says, by chunks that were put on the disk one time.
func model(d *disk.Disk, g api.Geom, house, gen int, segs []int, x api.Slot, l []roll.Found) ([]roll.Found, api.Slot) {
	whole := func(f roll.Found) bool {
		for i, block := range plain(f.Head, f.Blocks) {
			if s, ok := d.Read(sectorOf(g, f.Seg, f.At) + i); !ok || s != block {
				return false
			}
		}
		return true
	}
	goesOn := func(seg, at int) (roll.Found, bool) {
		if !slices.Contains(segs, seg) || seg < 0 || seg >= segsOf(g) || at < 0 {
			return roll.Found{}, false
		}
		for _, f := range l {
			h := f.Head
			if f.Seg == seg && f.At == at && at+1+len(f.Blocks) <= g.Seg && whole(f) &&
				h.House == house && h.Gen == gen && h.Life == x.Life && h.Seq == x.Seq && slices.Contains(segs, h.Next) {
				return f, true
			}
		}
		return roll.Found{}, false
	}
	var found []roll.Found
	for {
		f, ok := goesOn(x.Seg, x.At)
		if !ok {
			f, ok = goesOn(x.Next, 0)
		}
		if !ok {
			return found, x
		}
		found, x = append(found, f), behind(x, f)
	}
}

func sameChunk(a, b roll.Found) bool {
	x, y := a.Head, b.Head
	if !slices.Equal(x.List, y.List) || !slices.Equal(a.Blocks, b.Blocks) || a.Seg != b.Seg || a.At != b.At {
		return false
	}
	return x.House == y.House && x.Gen == y.Gen && x.Life == y.Life && x.Seq == y.Seq && x.Next == y.Next &&
		x.Clock == y.Clock && x.SinceBlocks == y.SinceBlocks && x.SinceNodes == y.SinceNodes
}

// places is where chunks stand and which they are, to be told.
func places(l []roll.Found) [][3]int {
	var p [][3]int
	for _, f := range l {
		p = append(p, [3]int{f.Seg, f.At, f.Head.Seq})
	}
	return p
}

// is holds an answer against the chunks that are wanted, and x behind them.
func is(t *testing.T, what string, got []roll.Found, y api.Slot, want []roll.Found, x api.Slot) {
	t.Helper()
	if !slices.EqualFunc(got, want, sameChunk) {
		t.Errorf("%s: chunks at %v, want %v", what, places(got), places(want))
	}
	if y != x {
		t.Errorf("%s: then %+v, want %+v", what, y, x)
	}
}

// finds holds what is found, with all segments there are, against the chunks
// that are wanted; the slot then must be the one behind them.
func finds(t *testing.T, what string, d *disk.Disk, g api.Geom, x api.Slot, want ...roll.Found) {
	t.Helper()
	got, y := roll.Forward(d, g, house, gen, upTo(segsOf(g)), x)
	is(t, what, got, y, want, behind(x, want...))
}

// findsOf is finds, with other segments.
func findsOf(t *testing.T, what string, d *disk.Disk, g api.Geom, segs []int, x api.Slot, want ...roll.Found) {
	t.Helper()
	got, y := roll.Forward(d, g, house, gen, segs, x)
	is(t, what, got, y, want, behind(x, want...))
}

// written is a log of random chunks, that goes through the segments of an
// order, from a block on, as P14.2 has it; it ends in the last but one.
func written(r *rand.Rand, g api.Geom, order []int, at int) []roll.Found {
	var l []roll.Found
	seg, seq := 0, 100
	for {
		n := r.Intn(mostPay + 1)
		if r.Intn(4) == 0 {
			n = min(max(g.Seg-at-1, 0), mostPay) // as much as there is room for
		}
		if at+1+n > g.Seg {
			if seg+2 == len(order) {
				return l
			}
			seg, at = seg+1, 0
		}
		f := piece(order[seg], at, order[seg+1], n, r.Int())
		f.Head.Seq = seq
		l, at, seq = append(l, f), at+1+n, seq+1
	}
}

func TestLimitsThatTheTestsWriteOut(t *testing.T) {
	if api.Block != bytes || api.MaxPay != mostPay || api.MaxTick != tick || api.MinSeg != 32 || api.MaxSeg != 64 || api.MaxHouses != 16 || api.MaxSectors != 1<<14 {
		t.Error("the limits are others than those that these tests write out")
	}
}

// P15.1: what is found

func TestTheExample(t *testing.T) {
	for _, g := range geoms() {
		d := disk.New(g.Sectors)
		last := segsOf(g) - 1
		for _, x := range []api.Slot{
			{}, begin(0, 0, 1), begin(last, g.Seg-1, 0), begin(3, g.Seg, last), begin(-1, -2, -3),
			{Num: 1, Life: 1, Seq: 1}, {Seg: math.MinInt, At: math.MaxInt, Next: math.MinInt, Seq: math.MaxInt},
		} {
			finds(t, "an empty disk", d, g, x)
			findsOf(t, "an empty disk, no segments", d, g, nil, x)
		}
	}
}

func TestOneChunk(t *testing.T) {
	for _, g := range geoms() {
		d := disk.New(g.Sectors)
		last := segsOf(g) - 1
		for _, seg := range []int{last, 0, 3} {
			if seg != last && last > 100 {
				continue
			}
			for at := range g.Seg {
				for n := range mostPay + 1 {
					// Around the end of the room all is tried, elsewhere a part.
					if left := g.Seg - at - 1 - n; left < 0 || left > 2 && (at+n)%7 > 0 {
						continue
					}
					f := piece(seg, at, 1, n, at*100+n)
					put(d, g, f)
					finds(t, "one chunk", d, g, begin(seg, at, 2), f)
				}
			}
		}
	}
}

func TestChunksOverAllSegments(t *testing.T) {
	for i, g := range geoms() {
		r := rand.New(rand.NewSource(int64(1500 + i)))
		order := r.Perm(segsOf(g))
		for _, at := range []int{9, 0, g.Seg - 1, g.Seg, g.Seg + 1} {
			if at != 9 && len(order) > 100 {
				continue
			}
			want := written(r, g, order, at)
			if len(want) < len(order)-2 {
				t.Errorf("%d chunks", len(want))
			}
			d := onDisk(g, want...)
			x := begin(order[0], at, order[1])
			finds(t, "all segments", d, g, x, want...)
			// The order of the segments, and that one is there twice, are nothing.
			findsOf(t, "the log's segments", d, g, append(order, order...), x, want...)
			end := behind(x, want...)
			finds(t, "the end", d, g, end)
			// From the middle on: the rest, and the same end.
			for k := 0; k < len(want); k += 1 + len(want)/9 {
				from := behind(x, want[:k]...)
				got, y := roll.Forward(d, g, house, gen, order, from)
				is(t, "from the middle on", got, y, want[k:], end)
			}
		}
	}
}

// What a log Appended is found, its last head too, which waits; the end is the
// log's own place.
func TestWhatALogAppended(t *testing.T) {
	for i, g := range geoms() {
		r := rand.New(rand.NewSource(int64(1510 + i)))
		order := r.Perm(segsOf(g))[:6]
		for _, at := range []int{0, 20, g.Seg} {
			d := disk.New(g.Sectors)
			x := begin(order[0], at, order[1])
			l := log.New(d, g, house, gen, x, order[2:])
			var want []roll.Found
			for {
				f := piece(0, 0, 0, r.Intn(mostPay+1), r.Int())
				was := l.Place()
				if _, ok := l.Append(f.Head, f.Blocks); !ok {
					break
				}
				f.Seg, f.At = l.Place().Seg, l.Place().At-1-len(f.Blocks)
				f.Head.Seq, f.Head.Next = was.Seq, l.Place().Next
				want = append(want, f)
				got, y := roll.Forward(d, g, house, gen, order, x)
				is(t, "a log", got, y, want, l.Place())
			}
			if d.Waits(house) != 1 || len(want) < 5 {
				t.Errorf("%d wait of %d chunks", d.Waits(house), len(want))
			}
		}
	}
}

func TestWhatIsAnsweredBesides(t *testing.T) {
	a, b := piece(5, 3, 1, 4, 1520), piece(5, 8, 7, 0, 1521)
	a.Head.Clock, a.Head.SinceBlocks, a.Head.SinceNodes = 900, 901, 902
	b.Head.Seq, b.Head.Clock, b.Head.SinceBlocks, b.Head.SinceNodes = 101, 3, 0, 2
	x := begin(5, 3, 2)
	want := api.Slot{
		Num: 4, Life: 6, Clock: 900, Seg: 5, At: 8, Next: 1, Seq: 101,
		Map: [4]int{51, 52, 53, 54}, SinceBlocks: 901, SinceNodes: 902,
	}
	got, y := roll.Forward(onDisk(least, a), least, house, gen, upTo(8), x)
	is(t, "one chunk", got, y, []roll.Found{a}, want)
	want.Clock, want.At, want.Next, want.Seq, want.SinceBlocks, want.SinceNodes = 3, 9, 7, 102, 0, 2
	got, y = roll.Forward(onDisk(least, a, b), least, house, gen, upTo(8), x)
	is(t, "two chunks", got, y, []roll.Found{a, b}, want)
}

// What a slot has besides plays no part in what is found.
func TestTheOtherFieldsOfTheSlot(t *testing.T) {
	a := piece(5, 3, 1, 4, 1525)
	d := onDisk(least, a)
	for _, v := range []int{0, 1, -1, tick, math.MinInt, math.MaxInt} {
		for _, change := range []func(x *api.Slot){
			func(x *api.Slot) { x.Num = v }, func(x *api.Slot) { x.Clock = v }, func(x *api.Slot) { x.Map[v&3] = v },
			func(x *api.Slot) { x.SinceBlocks = v }, func(x *api.Slot) { x.SinceNodes = v }, func(x *api.Slot) { x.Next = v },
		} {
			x := begin(5, 3, 2)
			change(&x)
			finds(t, "another slot", d, least, x, a)
		}
	}
}

func TestTheNumbersOfAHead(t *testing.T) {
	for _, who := range []int{1, 2, 16} {
		for _, gen := range []int{1, 258, 65535} {
			for _, life := range []int{1, 6, 1<<20 - 1} {
				for _, seq := range []int{1, 100, 1<<40 - 1, 1 << 40} {
					a := piece(5, 3, 7, 2, 1530)
					a.Head.House, a.Head.Gen, a.Head.Life, a.Head.Seq = who, gen, life, seq
					x := begin(5, 3, 2)
					x.Life, x.Seq = life, seq
					got, y := roll.Forward(onDisk(least, a), least, who, gen, upTo(8), x)
					is(t, "a head's numbers", got, y, []roll.Found{a}, behind(x, a))
				}
			}
		}
	}
	for _, clock := range []int{0, 1, tick} {
		for _, since := range []int{0, 1, tick + 1} {
			a := piece(5, 3, 7, 2, 1531)
			a.Head.Clock, a.Head.SinceBlocks, a.Head.SinceNodes = clock, since, tick+1-since
			finds(t, "a head's clock", onDisk(least, a), least, begin(5, 3, 2), a)
		}
	}
	a := piece(5, 3, 7, 5, 1532)
	a.Head.List = []api.Entry{{Kind: api.Data, Node: 1}, {Kind: api.Ind, Node: 255, Part: 9}, {Kind: api.Ino, Node: 3}, {Kind: api.Map, Node: 1, Part: 3}, {Kind: api.Gone, Node: 4}}
	finds(t, "each kind of entry", onDisk(least, a), least, begin(5, 3, 2), a)
}

// P15.1: where it goes on

// A chunk at the beginning of the segment behind is gone on with where there
// is none at the slot's own place, wherever that is.
func TestTheNextSegment(t *testing.T) {
	for i, g := range geoms() {
		last := segsOf(g) - 1
		for _, next := range []int{0, 4, last} {
			f := piece(next, 0, 1, i*3, 1540)
			d := onDisk(g, f)
			for _, at := range []int{0, 1, g.Seg / 2, g.Seg - 2, g.Seg - 1, g.Seg, g.Seg + 1, 1000, math.MaxInt - 1, math.MaxInt, -1, -g.Seg, math.MinInt} {
				for _, seg := range []int{2, 3, last - 1, last + 1, 65535, -1, math.MinInt, math.MaxInt} {
					if seg != next {
						finds(t, "the next segment", d, g, begin(seg, at, next), f)
					}
				}
			}
		}
	}
}

func TestThePlaceComesAheadOfTheNextSegment(t *testing.T) {
	for _, at := range []int{0, 1, 15, 30, 31} {
		here, there := piece(5, at, 1, 0, 1550), piece(3, 0, 6, 2, 1551)
		d := onDisk(least, here, there)
		finds(t, "both", d, least, begin(5, at, 3), here)
		// With the next Seq, the one there is not the one behind that here names.
		there.Head.Seq = 101
		d = onDisk(least, here, there)
		finds(t, "both", d, least, begin(5, at, 3), here)
		here.Head.Next = 3
		d = onDisk(least, here, there)
		finds(t, "one, and then the other", d, least, begin(5, at, 6), here, there)
	}
	// Of two that could be the second one, the one right behind.
	a, b, c := piece(5, 3, 1, 4, 1552), piece(5, 8, 2, 1, 1553), piece(1, 0, 3, 2, 1554)
	b.Head.Seq, c.Head.Seq = 101, 101
	finds(t, "the second one", onDisk(least, a, b, c), least, begin(5, 3, 7), a, b)
	finds(t, "the second one", onDisk(least, a, c), least, begin(5, 3, 7), a, c)
	// Where the place is lost, the next segment is gone on with, even so.
	d := onDisk(least, a, b, c)
	d.Write(0, sectorOf(least, 5, 9), all(0))
	finds(t, "the second one", d, least, begin(5, 3, 7), a, c)
}

// A chunk at the beginning of the segment behind alone is looked for, not one
// further behind in it.
func TestTheNextSegmentsBlock0Alone(t *testing.T) {
	for at := 1; at < 32; at++ {
		d := onDisk(least, piece(3, at, 6, 0, 1556))
		finds(t, "behind the next segment's beginning", d, least, begin(5, at-1, 3))
		finds(t, "behind the next segment's beginning", d, least, begin(5, at, 3))
		finds(t, "behind the next segment's beginning", d, least, begin(5, 32, 3))
		finds(t, "behind the place", d, least, begin(3, at-1, 5))
	}
}

// At the segment's end the chunk in the segment with the next number is none
// that goes on, as it is not what is named.
func TestTheSegmentWithTheNextNumber(t *testing.T) {
	for _, g := range geoms() {
		for _, at := range []int{0, 1, 5, 31} {
			other := piece(6, at, 2, 0, 1560)
			d := onDisk(g, other)
			finds(t, "the next number", d, g, begin(5, g.Seg+at, 1))
			finds(t, "the next number", d, g, begin(5, g.Seg, 1))
			there := piece(1, 0, 2, 3, 1561)
			put(d, g, there)
			finds(t, "the next number", d, g, begin(5, g.Seg+at, 1), there)
		}
		// And so it is with the one with the number less.
		for _, at := range []int{1, 2, g.Seg} {
			d := onDisk(g, piece(4, g.Seg-at, 2, 0, 1562))
			finds(t, "the number less", d, g, begin(5, -at, 1))
		}
	}
}

func TestAChunkThatFillsTheSegment(t *testing.T) {
	for _, g := range geoms() {
		last := segsOf(g) - 1
		for _, seg := range []int{5, last} {
			for n := range mostPay + 1 {
				a := piece(seg, g.Seg-1-n, 1, n, 1570+n)
				b := piece(1, 0, 4, 2, 1600+n)
				b.Head.Seq = 101
				x := begin(seg, a.At, 2)
				finds(t, "the last block", onDisk(g, a), g, x, a)
				finds(t, "the last block", onDisk(g, a, b), g, x, a, b)
			}
		}
	}
}

// A chunk that would go beyond the segment's end is none, though its blocks
// are there, in the segment with the next number.
func TestAChunkBeyondTheSegmentsEnd(t *testing.T) {
	for _, g := range geoms() {
		last := segsOf(g) - 1
		for _, seg := range []int{last, last - 1, 5, 0} {
			for n := 1; n <= mostPay; n++ {
				for at := g.Seg - n; at < g.Seg; at++ {
					if sectorOf(g, seg, at)+1+n > g.Sectors || last > 100 && (at+n)%5 > 0 {
						continue
					}
					a := piece(seg, at, 1, n, 1630)
					d := onDisk(g, a)
					finds(t, "beyond the end", d, g, begin(seg, at, 2))
					if at == g.Seg-n || n == mostPay {
						there := piece(2, 0, 4, 1, 1631)
						put(d, g, there)
						finds(t, "beyond the end", d, g, begin(seg, at, 2), there)
					}
				}
			}
		}
	}
}

// What stands behind a chunk plays no part.
func TestWhatStandsBehind(t *testing.T) {
	r := rand.New(rand.NewSource(1640))
	for n := range mostPay + 1 {
		a := piece(5, 3, 1, n, 1641)
		d := disk.New(least.Sectors)
		for i := range least.Sectors {
			d.Write(0, i, noise(r))
		}
		put(d, least, a)
		finds(t, "any bytes behind", d, least, begin(5, 3, 2), a)
	}
}

func TestNextIsTheSegmentItself(t *testing.T) {
	a, b := piece(5, 0, 5, 6, 1650), piece(5, 7, 5, 0, 1651)
	b.Head.Seq = 101
	d := onDisk(least, a, b)
	finds(t, "itself", d, least, begin(5, 0, 5), a, b)
	finds(t, "itself", d, least, begin(5, 9, 5), a, b)
	finds(t, "itself", d, least, begin(2, 32, 5), a, b)
	findsOf(t, "itself alone", d, least, []int{5}, begin(5, 0, 5), a, b)
	// Behind b it is back at a, which is not the next one.
	y := behind(begin(5, 0, 5), a, b)
	finds(t, "itself", d, least, y)
	// What is at its beginning may be the next one, even so.
	c := piece(5, 0, 2, 3, 1652)
	c.Head.Seq = 102
	put(d, least, c)
	finds(t, "itself", d, least, y, c)
}

// A log that comes back to a segment ends there, as Seq does not go on.
func TestALogThatComesBack(t *testing.T) {
	var want []roll.Found
	for i, seg := range []int{5, 1, 3, 6} {
		for k, n := range []int{24, 6} {
			f := piece(seg, 25*k, []int{1, 3, 6, 5}[i], n, 1660+10*i+k)
			f.Head.Seq = 100 + 2*i + k
			want = append(want, f)
		}
	}
	d := onDisk(least, want...)
	finds(t, "round", d, least, begin(5, 0, 1), want...)
	finds(t, "round", d, least, begin(7, 32, 5), want...)
	// From each chunk of the round on, up to the one that is behind the last.
	for k := range want {
		finds(t, "a part of the round", d, least, behind(begin(5, 0, 1), want[:k]...), want[k:]...)
	}
	// The same, with the round's first chunk written anew: it goes on there.
	anew := piece(5, 0, 2, 1, 1670)
	anew.Head.Seq = 108
	put(d, least, anew)
	finds(t, "round again", d, least, behind(begin(5, 0, 1), want[:4]...), append(slices.Clone(want[4:]), anew)...)
}

// A chunk is as long as its List says: what is behind it is found there alone.
func TestTheBlockBehindAChunk(t *testing.T) {
	for n := range mostPay + 1 {
		for at := range 31 {
			a, b := piece(5, 0, 1, n, 1680), piece(5, at+1, 1, 0, 1681)
			b.Head.Seq = 101
			d := onDisk(least, b)
			put(d, least, a)
			want := []roll.Found{a}
			if at == n {
				want = append(want, b)
			}
			finds(t, "behind it", d, least, begin(5, 0, 1), want...)
		}
	}
}

// P15.1: the segments

func TestSegments(t *testing.T) {
	a, b, c := piece(5, 20, 1, 2, 1700), piece(1, 0, 3, 24, 1701), piece(3, 0, 6, 9, 1702)
	b.Head.Seq, c.Head.Seq = 101, 102
	d := onDisk(least, a, b, c)
	x := begin(5, 20, 4)
	for _, v := range []struct {
		segs []int
		want []roll.Found
	}{
		{nil, nil}, {[]int{}, nil}, {[]int{5}, nil}, {[]int{1}, nil}, {[]int{1, 3, 6, 4}, nil},
		{[]int{5, 1}, []roll.Found{a}}, {[]int{1, 5}, []roll.Found{a}}, {[]int{5, 1, 6}, []roll.Found{a}},
		{[]int{5, 3, 6}, nil}, {[]int{5, 1, 3}, []roll.Found{a, b}},
		{[]int{0, 1, 2, 3, 4, 5, 7}, []roll.Found{a, b}},
		{[]int{5, 1, 3, 6}, []roll.Found{a, b, c}}, {[]int{1, 3, 5, 6}, []roll.Found{a, b, c}},
		{[]int{6, 6, 5, 5, 3, 3, 1, 1, 1}, []roll.Found{a, b, c}}, {upTo(8), []roll.Found{a, b, c}}, {upTo(1000), []roll.Found{a, b, c}},
		{[]int{-1, 8, 65535, 5, 1, 3, 6, math.MinInt, math.MaxInt}, []roll.Found{a, b, c}},
	} {
		findsOf(t, "segments", d, least, v.segs, x, v.want...)
	}
	// x's Seg is none: what Next leads to is gone on with.
	y := behind(x, a)
	findsOf(t, "Seg is none", d, least, []int{1, 3, 6}, y, b, c)
	findsOf(t, "Seg is none", d, least, []int{1, 3}, y, b)
	// x's Next is none: what is at its place is gone on with.
	findsOf(t, "Next is none", d, least, []int{5, 1}, x, a)
	findsOf(t, "Next is none", d, least, []int{5, 3, 6}, y)
	// A place at which nothing stands, in no segment: Next even so.
	findsOf(t, "Seg is none", d, least, []int{1, 3, 6}, begin(5, 20, 1))
	z := begin(5, 20, 1)
	z.Seq = 101
	findsOf(t, "Seg is none", d, least, []int{1, 3, 6}, z, b, c)
}

// A segment that the disk has not is nowhere, though the list names it: above
// all it is not where geom's Start of it, 0, leads to.
func TestSegmentsThatTheDiskHasNot(t *testing.T) {
	for _, g := range geoms() {
		n := segsOf(g)
		for _, seg := range []int{-1, -2, n, n + 1, 65535, 65536, 1 << 40, math.MinInt, math.MinInt + 1, math.MaxInt} {
			segs := append(upTo(n), seg)
			for _, at := range []int{0, 1, 20, g.Seg - 1} {
				d := disk.New(g.Sectors)
				f := piece(0, at, 1, 0, 1710)
				put(d, g, f)                               // at segment 0's
				d.Write(0, at, plain(f.Head, f.Blocks)[0]) // as if a segment began at sector 0
				if end := first + n*g.Seg + at; end < g.Sectors {
					d.Write(0, end, plain(f.Head, f.Blocks)[0])
				}
				d.Write(0, first-g.Seg+at, plain(f.Head, f.Blocks)[0])
				findsOf(t, "Seg that is none", d, g, segs, begin(seg, at, 2))
				findsOf(t, "Next that is none", d, g, segs, begin(2, at, seg))
				findsOf(t, "both none", d, g, segs, begin(seg, at, seg))
			}
		}
		// What names such a segment is found; there nothing goes on.
		a := piece(5, 3, 65535, 1, 1711)
		d := onDisk(g, a)
		findsOf(t, "it names one", d, g, []int{5, 65535}, begin(5, 3, 2), a)
		findsOf(t, "it names one", d, g, []int{5}, begin(5, 3, 2))
		b := piece(5, 5, 65535, 1, 1712)
		b.Head.Seq = 101
		put(d, g, b)
		findsOf(t, "it names one", d, g, []int{5, 65535}, begin(5, 3, 2), a, b)
	}
}

// P15.1, P15.2: what is not found

func TestOthersAreNotFound(t *testing.T) {
	for _, change := range []func(h *api.Head){
		func(h *api.Head) { h.House-- }, func(h *api.Head) { h.House++ }, func(h *api.Head) { h.House = 16 },
		func(h *api.Head) { h.Gen-- }, func(h *api.Head) { h.Gen++ }, func(h *api.Head) { h.Gen = 65535 },
		func(h *api.Head) { h.Life-- }, func(h *api.Head) { h.Life++ }, func(h *api.Head) { h.Life = 1<<20 - 1 },
		func(h *api.Head) { h.Seq-- }, func(h *api.Head) { h.Seq++ }, func(h *api.Head) { h.Seq = 1 },
		func(h *api.Head) { h.Seq = 1 << 40 }, func(h *api.Head) { h.Seq += 1 << 32 },
		func(h *api.Head) { h.Next = 8 }, func(h *api.Head) { h.Next = 65535 },
	} {
		for i, n := range []int{0, 1, 5, mostPay} {
			a, b, c := piece(5, 2, 1, 3, 1720), piece(5, 6, 1, n, 1721), piece(1, 0, 1, n, 1722)
			b.Head.Seq, c.Head.Seq = 101, 101
			x := begin(5, 2, 3)
			d := onDisk(least, a, b)
			finds(t, "as it was", d, least, x, a, b)
			change(&b.Head)
			put(d, least, b)
			finds(t, "behind the place", d, least, x, a)
			finds(t, "at the place", d, least, behind(x, a))
			// Then the next segment's beginning is gone on with.
			put(d, least, c)
			finds(t, "and the next one", d, least, x, a, c)
			change(&c.Head)
			put(d, least, c)
			finds(t, "in the next segment", d, least, x, a)
			finds(t, "in the next segment", d, least, behind(begin(5, 32+i, 1), a))
		}
	}
}

// The same, turned round: the chunks stay, and what is asked for is another.
func TestAskedForAnother(t *testing.T) {
	a, b := piece(5, 30, 1, 1, 1730), piece(1, 0, 3, 4, 1731)
	b.Head.Seq = 101
	d := onDisk(least, a, b)
	next := begin(4, 32, 1)
	next.Seq = 101
	for _, start := range []api.Slot{begin(5, 30, 4), next, behind(begin(5, 30, 4), a)} {
		for _, v := range []int{-2, -1, 1, 2, 256, 1 << 20, 1 << 32, 1 << 62} {
			for i, change := range []func(house, gen *int, x *api.Slot){
				func(house, gen *int, x *api.Slot) { *house += v },
				func(house, gen *int, x *api.Slot) { *gen += v },
				func(house, gen *int, x *api.Slot) { x.Life += v },
				func(house, gen *int, x *api.Slot) { x.Seq += v },
			} {
				if start.Seq == 101 && i == 3 && v == -1 {
					continue // that one is a's
				}
				who, which, x := house, gen, start
				change(&who, &which, &x)
				got, y := roll.Forward(d, least, who, which, upTo(8), x)
				is(t, "another", got, y, nil, x)
			}
		}
	}
}

func TestABitTurned(t *testing.T) {
	a, b, c := piece(5, 3, 1, 1, 1740), piece(5, 5, 1, 2, 1741), piece(5, 8, 1, 0, 1742)
	b.Head.Seq, c.Head.Seq = 101, 102
	d := onDisk(least, a, b, c)
	x := begin(5, 3, 2)
	finds(t, "as it was", d, least, x, a, b, c)
	for i, block := range plain(b.Head, b.Blocks) {
		for bit := range 8 * bytes {
			if i > 0 && bit%5 > 0 {
				continue
			}
			turned := []byte(block)
			turned[bit/8] ^= 1 << (bit % 8)
			d.Write(0, sectorOf(least, 5, 5+i), string(turned))
			d.Flush(0)
			if got, y := roll.Forward(d, least, house, gen, upTo(8), x); len(got) != 1 || y != behind(x, a) {
				t.Fatalf("block %d, bit %d: chunks at %v, then %+v", i, bit, places(got), y)
			}
		}
		d.Write(0, sectorOf(least, 5, 5+i), block)
	}
	finds(t, "as it was", d, least, x, a, b, c)
}

// A chunk of which a sector is lost ends the log, whichever sector of it.
func TestASectorLost(t *testing.T) {
	for i, g := range geoms()[:3] {
		r := rand.New(rand.NewSource(int64(1750 + i)))
		order := r.Perm(segsOf(g))[:5]
		want := written(r, g, order, 7)
		d := onDisk(g, want...)
		x := begin(order[0], 7, order[1])
		for k, f := range want {
			for j, block := range plain(f.Head, f.Blocks) {
				for _, other := range []string{all(0), all(0xff), noise(r)} {
					d.Write(0, sectorOf(g, f.Seg, f.At+j), other)
					finds(t, "a sector lost", d, g, x, want[:k]...)
					d.Forget(0)
				}
				// What is durable is nothing, where a write waits.
				if s, _ := d.Durable(sectorOf(g, f.Seg, f.At+j)); s != block {
					t.Fatal("it is not durable")
				}
			}
		}
		finds(t, "as it was", d, g, x, want...)
	}
}

// What is of another life lies behind the last chunk, as a mount left it there.
func TestAnotherLifeBehindTheLastOne(t *testing.T) {
	for _, life := range []int{1, 5, 7, 1000} {
		for k := range 6 {
			var l []roll.Found
			for i, n := range []int{4, 0, 20, 4, 9} {
				f := piece([]int{5, 5, 5, 1, 1}[i], []int{2, 7, 8, 0, 5}[i], 1, n, 1760+i)
				f.Head.Seq = 100 + i
				if i >= k {
					f.Head.Life = life
				}
				l = append(l, f)
			}
			d := onDisk(least, l...)
			x := begin(5, 2, 1)
			finds(t, "another life", d, least, x, l[:k]...)
			// And that life's own log is what it was.
			y := behind(x, l[:k]...)
			y.Life = life
			finds(t, "that life's own", d, least, y, l[k:]...)
		}
	}
}

// Power fails anywhere, and any part of what waits is kept: a beginning of the
// chunks is found, all of them but the last one at least.
func TestPowerFails(t *testing.T) {
	r := rand.New(rand.NewSource(1770))
	lost := make([]int, 2)
	for run := range 400 {
		d := disk.New(least.Sectors)
		for i := range least.Sectors {
			d.Write(0, i, noise(r))
		}
		d.Flush(0)
		order := r.Perm(8)
		x := begin(order[0], r.Intn(33), order[1])
		l := log.New(d, least, house, gen, x, order[2:])
		d.Cut(1 + r.Intn(120))
		var want []roll.Found
		for ok := true; ok; {
			f := piece(0, 0, 0, r.Intn(mostPay+1), run)
			f.Head.Seq = l.Place().Seq
			if _, ok = l.Append(f.Head, f.Blocks); ok {
				f.Seg, f.At, f.Head.Next = l.Place().Seg, l.Place().At-1-len(f.Blocks), l.Place().Next
				want = append(want, f)
			}
		}
		var keep []int
		for i := range 40 {
			if r.Intn(2) == 0 {
				keep = append(keep, i)
			}
		}
		d.Back([][]int{{0, 1}, nil, keep})
		got, y := roll.Forward(d, least, house, gen, order, x)
		n := len(got)
		if n > len(want) || n < len(want)-1 {
			t.Fatalf("%d chunks of %d", n, len(want))
		}
		lost[len(want)-n]++
		is(t, "the power failed", got, y, want[:n], behind(x, want[:n]...))
		// Again it is the same, and so it is behind another failure.
		d.Cut(0)
		d.Back(nil)
		got, y = roll.Forward(d, least, house, gen, order, x)
		is(t, "the power failed again", got, y, want[:n], behind(x, want[:n]...))
	}
	if lost[0] < 50 || lost[1] < 50 {
		t.Errorf("the last chunk was there, was lost: %v times", lost)
	}
}

// Two houses' logs over one disk: each finds its own.
func TestTwoHouses(t *testing.T) {
	r := rand.New(rand.NewSource(1780))
	g := geoms()[2]
	order := r.Perm(segsOf(g))
	a, b := written(r, g, order[:4], 9), written(r, g, order[4:], 30)
	for i := range b {
		b[i].Head.House, b[i].Head.Gen = 7, 3
	}
	d := onDisk(g, append(slices.Clone(a), b...)...)
	xa, xb := begin(order[0], 9, order[1]), begin(order[4], 30, order[5])
	findsOf(t, "one", d, g, order[:4], xa, a...)
	got, y := roll.Forward(d, g, 7, 3, order[4:], xb)
	is(t, "the other one", got, y, b, behind(xb, b...))
	// With all segments as well, and not from the other one's place on.
	finds(t, "one", d, g, xa, a...)
	finds(t, "one", d, g, xb)
	// What is done to the other one's segments is nothing to the first.
	for _, seg := range order[4:] {
		for at := range g.Seg {
			d.Write(7, sectorOf(g, seg, at), noise(r))
		}
	}
	findsOf(t, "one", d, g, order[:4], xa, a...)
	d.Flush(7)
	findsOf(t, "one", d, g, order[:4], xa, a...)
}

// Chunks all over the disk, with much that is in order and much that is not,
// held against the model.
func TestAnyChunksAnywhere(t *testing.T) {
	r := rand.New(rand.NewSource(1790))
	many := map[int]int{}
	for range 1500 {
		g := geoms()[r.Intn(3)]
		segs := segsOf(g)
		order := r.Perm(segs)
		at := r.Intn(g.Seg + 1)
		l := written(r, g, order[:2+r.Intn(segs-2)], at)
		x := begin(order[0], at, order[1])
		d := onDisk(g, l...)
		if len(l) == 0 {
			continue // the log is at the end of the last segment but one
		}
		for range r.Intn(4) {
			f := copied(l[r.Intn(len(l))])
			change(r, g, &f)
			if sectorOf(g, f.Seg, f.At)+1+len(f.Blocks) <= g.Sectors {
				put(d, g, f)
				l = append(l, f)
			}
		}
		own := slices.Clone(order)
		if r.Intn(3) == 0 {
			own = own[r.Intn(2):max(1, segs-r.Intn(3))]
		}
		if r.Intn(3) == 0 {
			x = behind(x, l[:r.Intn(len(l))]...)
		}
		want, y := model(d, g, house, gen, own, x, l)
		got, z := roll.Forward(d, g, house, gen, own, x)
		is(t, "any chunks", got, z, want, y)
		many[min(len(want), 3)]++
	}
	for n := range 4 {
		if many[n] < 50 {
			t.Errorf("so many chunks were found: %v times", many)
		}
	}
}

// change turns one thing of a chunk.
func change(r *rand.Rand, g api.Geom, f *roll.Found) {
	h := &f.Head
	switch r.Intn(9) {
	case 0:
		h.House = 1 + r.Intn(3)
	case 1:
		h.Gen = 8 + r.Intn(3)
	case 2:
		h.Life = 5 + r.Intn(3)
	case 3:
		h.Seq += r.Intn(5) - 2
	case 4:
		h.Next = r.Intn(segsOf(g) + 2)
	case 5:
		f.Seg, f.At = r.Intn(segsOf(g)), 0
	case 6:
		f.At = r.Intn(g.Seg)
	case 7:
		h.Clock = r.Intn(tick + 1)
	case 8:
		n := r.Intn(len(f.Blocks) + 1)
		h.List, f.Blocks = h.List[:n], f.Blocks[:n]
	}
}

// Wrong inputs

func TestAGeometryThatMayNotBe(t *testing.T) {
	for _, g := range []api.Geom{
		{}, {Sectors: 304, Seg: 31}, {Sectors: 303, Seg: 32}, {Sectors: 304, Seg: 0}, {Sectors: 304, Seg: -1}, {Sectors: 304, Seg: -32},
		{Sectors: 304, Seg: math.MinInt}, {Sectors: 304, Seg: math.MaxInt}, {Sectors: 0, Seg: 32}, {Sectors: -1, Seg: 32},
		{Sectors: 1<<14 + 1, Seg: 32}, {Sectors: 1 << 14, Seg: 65}, {Sectors: math.MaxInt, Seg: 32}, {Sectors: math.MinInt, Seg: 64},
		{Sectors: math.MaxInt, Seg: math.MaxInt},
	} {
		d := disk.New(1000)
		f := piece(0, 0, 1, 0, 1800)
		for i := range d.Sectors() {
			d.Write(0, i, plain(f.Head, nil)[0])
		}
		d.Flush(0)
		for _, seg := range []int{0, 1, 5, -1, math.MinInt, math.MaxInt} {
			for _, at := range []int{0, 1, 31, 32, -1, -32, math.MinInt, math.MaxInt} {
				findsOf(t, "a disk that may not be", d, g, append(upTo(9), seg), begin(seg, at, 2))
				findsOf(t, "a disk that may not be", d, g, append(upTo(9), seg), begin(3, at, seg))
			}
		}
	}
}

func TestWithoutPower(t *testing.T) {
	a, b := piece(5, 30, 1, 1, 1810), piece(1, 0, 3, 4, 1811)
	b.Head.Seq = 101
	d := onDisk(least, a, b)
	for _, x := range []api.Slot{begin(5, 30, 1), begin(4, 32, 5), {}, begin(-1, -1, -1)} {
		d.Cut(0)
		finds(t, "without power", d, least, x)
		if !d.Down() {
			t.Error("there is power")
		}
		d.Back(nil)
	}
	finds(t, "with power again", d, least, begin(5, 30, 1), a, b)
	finds(t, "with power again", d, least, behind(begin(4, 32, 5), a), b)
}

// A house, a gen, a slot that may not be: no head has such numbers, and the
// bytes of one, as far as they go, are not taken for it.
func TestNumbersThatNoHeadHas(t *testing.T) {
	a := piece(5, 3, 1, 2, 1820)
	d := onDisk(least, a)
	never := func(who, gen, life, seq int) {
		t.Helper()
		x := begin(5, 3, 2)
		x.Life, x.Seq = life, seq
		f := copied(a)
		f.Head.House, f.Head.Gen, f.Head.Life, f.Head.Seq = who, gen, life, seq
		for _, d := range []*disk.Disk{d, onDisk(least, f)} {
			got, y := roll.Forward(d, least, who, gen, upTo(8), x)
			is(t, "no head has it", got, y, nil, x)
		}
	}
	for _, v := range []int{0, -1, -1 << 20, 1<<40 + 1, 1 << 48, math.MinInt, math.MinInt + 1, math.MaxInt - 1, math.MaxInt} {
		never(v, gen, 6, 100)
		never(house, v, 6, 100)
		never(house, gen, v, 100)
		never(house, gen, 6, v)
		never(v, v, v, v)
	}
	for _, v := range []int{0, 1, 2} {
		never(17+v, gen, 6, 100)
		never(256+v, gen, 6, 100)
		never(house, 1<<16+v, 6, 100)
		never(house, gen, 1<<20+v, 100)
		never(house, gen, 1<<24+v, 100)
		never(house, gen, 6, 1<<48+v)
	}
	finds(t, "as it was", d, least, begin(5, 3, 2), a)
}

// What a head may not say is none, though its sum is right.
func TestHeadsThatMayNotBe(t *testing.T) {
	for _, change := range []func(h *api.Head){
		func(h *api.Head) { h.Clock = tick + 1 }, func(h *api.Head) { h.SinceBlocks = tick + 2 }, func(h *api.Head) { h.SinceNodes = tick + 2 },
		func(h *api.Head) { h.List[0] = api.Entry{} }, func(h *api.Head) { h.List[2].Kind = 6 }, func(h *api.Head) { h.List[1].Node = 0 },
		func(h *api.Head) { h.List[1].Part = 588 }, func(h *api.Head) { h.List[2] = api.Entry{Kind: api.Map, Node: 2} },
		func(h *api.Head) { h.List = h.List[:2] }, func(h *api.Head) { h.List = append(h.List, h.List[0]) },
	} {
		f := piece(5, 3, 1, 3, 1830)
		change(&f.Head)
		finds(t, "a head that may not be", onDisk(least, f), least, begin(5, 3, 2))
		f.Seg, f.At = 2, 0
		finds(t, "a head that may not be", onDisk(least, f), least, begin(5, 3, 2))
	}
}

func TestAnyNumbersAtAll(t *testing.T) {
	numbers := []int{0, 1, 5, 31, 32, 65535, -1, 1 << 40, math.MinInt, math.MinInt + 1, math.MaxInt, math.MaxInt - 1}
	r := rand.New(rand.NewSource(1840))
	any := func() int { return numbers[r.Intn(len(numbers))] }
	a := piece(5, 3, 1, 2, 1841)
	d := onDisk(least, a)
	for range 5000 {
		g := least
		if r.Intn(2) == 0 {
			g = api.Geom{Sectors: any(), Seg: any()}
		}
		x := api.Slot{Num: any(), Life: any(), Clock: any(), Seg: any(), At: any(), Next: any(), Seq: any(), SinceBlocks: any(), SinceNodes: any()}
		segs := []int{any(), any(), any()}[:r.Intn(4)]
		got, y := roll.Forward(d, g, any(), any(), segs, x)
		is(t, "any numbers", got, y, nil, x)
	}
}

// A disk may end ahead of what its geometry says: what is there is found, as a
// log may have Appended it.
func TestADiskThatIsTooSmall(t *testing.T) {
	for size := first; size < first+40; size++ {
		for _, n := range []int{0, 1, 5, mostPay} {
			d := disk.New(size)
			x := begin(0, 0, 1)
			l := log.New(d, least, house, gen, x, nil)
			f := piece(0, 0, 1, n, 1850)
			var want []roll.Found
			if _, ok := l.Append(f.Head, f.Blocks); ok {
				want = append(want, f)
			}
			finds(t, "a disk that is too small", d, least, x, want...)
		}
	}
}

// Nothing is turned, nothing is kept

func TestNothingOfTheDiskIsTurned(t *testing.T) {
	r := rand.New(rand.NewSource(1860))
	for _, down := range []int{0, 1} {
		l := written(r, least, upTo(8), 3)
		d := onDisk(least, l...)
		for owner := range 17 {
			for range 1 + owner%3 {
				d.Write(owner, r.Intn(first), noise(r))
			}
		}
		if d.Cut(5); down == 1 {
			d.Cut(0)
		}
		sectors := func(ask func(int) (string, bool)) []string {
			var l []string
			for i := range least.Sectors {
				s, _ := ask(i)
				l = append(l, s)
			}
			return l
		}
		was, durable, writes := sectors(d.Read), sectors(d.Durable), d.Writes()
		for _, x := range []api.Slot{begin(0, 3, 1), begin(0, 4, 1), begin(5, 32, 0), begin(-1, 0, 9), {}} {
			roll.Forward(d, least, house, gen, upTo(8), x)
			roll.Forward(d, least, house, gen, nil, x)
			roll.Forward(d, api.Geom{}, house, gen, upTo(8), x)
		}
		if d.Writes() != writes || !slices.Equal(sectors(d.Read), was) || !slices.Equal(sectors(d.Durable), durable) || d.Down() != (down == 1) {
			t.Error("the disk is turned")
		}
		for owner := range 17 {
			if d.Waits(owner) != 1+owner%3 {
				t.Errorf("of owner %d %d wait", owner, d.Waits(owner))
			}
		}
		// The Cut is what it was, too.
		for i := range 5 {
			if ok := d.Write(0, 0, all(1)); ok != (down == 0) || d.Down() != (down == 1 || i == 4) {
				t.Errorf("write %d: %v", i, ok)
			}
		}
	}
}

func TestWhatIsHandedInIsNotChanged(t *testing.T) {
	r := rand.New(rand.NewSource(1870))
	l := written(r, least, []int{5, 1, 3, 6}, 3)
	d := onDisk(least, l...)
	// The spare room of the list is not changed either.
	room := []int{6, 3, 5, 1, 99, 98}
	x := begin(5, 3, 1)
	got, y := roll.Forward(d, least, house, gen, room[:4], x)
	is(t, "handed in", got, y, l, behind(x, l...))
	if !slices.Equal(room, []int{6, 3, 5, 1, 99, 98}) {
		t.Errorf("%v", room)
	}
	clear(room)
	is(t, "the list is written over", got, y, l, behind(x, l...))
}

// overwrite writes over all lists of an answer, their spare room too.
func overwrite(l []roll.Found) {
	for i := range l {
		list, blocks := l[i].Head.List, l[i].Blocks
		for k := range list[:cap(list)] {
			list[:cap(list)][k] = api.Entry{Kind: -77}
		}
		for k := range blocks[:cap(blocks)] {
			blocks[:cap(blocks)][k] = "over"
		}
	}
}

func TestWhatIsAnsweredIsNewMemory(t *testing.T) {
	r := rand.New(rand.NewSource(1880))
	l := written(r, least, []int{5, 1, 3, 6}, 3)
	d := onDisk(least, l...)
	x := begin(5, 3, 1)
	a, y := roll.Forward(d, least, house, gen, upTo(8), x)
	b, _ := roll.Forward(d, least, house, gen, upTo(8), x)
	// No two lists of one answer share any.
	for i := range a {
		overwrite(a[i : i+1])
		is(t, "chunks of one answer", a[i+1:], y, l[i+1:], behind(x, l...))
	}
	clear(a[:cap(a)])
	is(t, "the other answer", b, y, l, behind(x, l...))
	overwrite(b)
	finds(t, "the answers are written over", d, least, x, l...)
}

func TestAnswersHangOnArgumentsAlone(t *testing.T) {
	r := rand.New(rand.NewSource(1890))
	l := written(r, least, []int{5, 1, 3, 6}, 3)
	x := begin(5, 3, 1)
	for range 3 {
		d := onDisk(least, l...)
		for k := range l {
			finds(t, "again", d, least, behind(x, l[:k]...), l[k:]...)
			finds(t, "of another", disk.New(least.Sectors), least, x)
			findsOf(t, "of no segment", d, least, nil, x)
			finds(t, "again", d, least, x, l...)
		}
	}
	// Once the disk is another one, so is the answer.
	d := onDisk(least, l...)
	last := l[len(l)-1]
	finds(t, "as it was", d, least, x, l...)
	d.Write(0, sectorOf(least, last.Seg, last.At), all(0))
	finds(t, "the last one is lost", d, least, x, l[:len(l)-1]...)
}
