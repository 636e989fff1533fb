package table_test

import (
	"encoding/binary"
	"hash/crc32"
	"math"
	"math/rand"
	"slices"
	"strings"
	"testing"

	"beguinage/api"
	"beguinage/table"
)

const (
	most      = 1 << 40
	allBytes  = 2048
	sumAt     = allBytes - 4
	firstAt   = 10
	rowBytes  = 101
	housesEnd = firstAt + 16*rowBytes
)

// extremes are numbers beyond every bound, to both ends of what there is.
func extremes() []int {
	return []int{
		math.MinInt, math.MinInt + 1, math.MinInt / 2, math.MinInt32, -1 << 40, -65536, -256, -2, -1,
		math.MaxInt, math.MaxInt - 1, math.MaxInt / 2, 1 << 48, 1<<48 + 8, 1 << 56, 1<<56 + 8, 1 << 62, most + 1,
	}
}

func limit() api.Limit {
	return api.Limit{Segs: 8, HardBlocks: 1000, SoftBlocks: 900, HardNodes: 60, SoftNodes: 50, Grace: 77, Budget: 300}
}

func least() api.Limit { return api.Limit{Segs: 8, HardNodes: 1, SoftNodes: 1} }

func greatest() api.Limit {
	return api.Limit{Segs: 40, HardBlocks: 100000, SoftBlocks: 100000, HardNodes: 255, SoftNodes: 255, Grace: most, Budget: 1000}
}

// place is a number of a Limit, its first and last value beside limit()'s
// others, and where it stands in a house's row.
type place struct {
	name        string
	of          func(l *api.Limit) *int
	first, last int
	at, bytes   int
}

func places() []place {
	return []place{
		{"Segs", func(l *api.Limit) *int { return &l.Segs }, 8, 40, 3, 1},
		{"HardBlocks", func(l *api.Limit) *int { return &l.HardBlocks }, 900, 100000, 4, 3},
		{"SoftBlocks", func(l *api.Limit) *int { return &l.SoftBlocks }, 0, 1000, 7, 3},
		{"HardNodes", func(l *api.Limit) *int { return &l.HardNodes }, 50, 255, 10, 1},
		{"SoftNodes", func(l *api.Limit) *int { return &l.SoftNodes }, 1, 60, 11, 1},
		{"Grace", func(l *api.Limit) *int { return &l.Grace }, 0, most, 12, 6},
		{"Budget", func(l *api.Limit) *int { return &l.Budget }, 0, 1000, 18, 2},
	}
}

// row is n segments from one on, each by so much above the one ahead of it.
func row(from, n, step int) []int {
	var l []int
	for i := range n {
		l = append(l, from+i*step)
	}
	return l
}

func empty() []api.House { return make([]api.House, 16) }

func houseOf(state, gen int, l api.Limit, segs []int) api.House {
	return api.House{State: state, Gen: gen, Limit: l, Segs: segs}
}

// some houses: one with the fewest segments, one with the most, one that is
// being wiped, one that is none any more.
func some() []api.House {
	l := empty()
	l[0] = houseOf(1, 1, limit(), row(5, 8, 1))
	l[2] = houseOf(2, 65535, greatest(), row(100, 40, 3))
	l[7] = api.House{Gen: 500}
	l[9] = api.House{Gen: 65535}
	l[15] = houseOf(1, 258, least(), []int{0, 1, 2, 99, 101, 256, 65534, 65535})
	return l
}

// full are sixteen houses with the most segments each, mingled.
func full() []api.House {
	l := empty()
	for i := range l {
		l[i] = houseOf(1+i%2, 65535-i, greatest(), row(i, 40, 16))
	}
	return l
}

func lone(i int, h api.House) []api.House {
	l := empty()
	l[i] = h
	return l
}

func copied(l []api.House) []api.House {
	l = slices.Clone(l)
	for i := range l {
		l[i].Segs = slices.Clone(l[i].Segs)
	}
	return l
}

func sameHouse(a, b api.House) bool {
	return a.State == b.State && a.Gen == b.Gen && a.Limit == b.Limit && slices.Equal(a.Segs, b.Segs)
}

func same(a, b []api.House) bool { return slices.EqualFunc(a, b, sameHouse) }

// random are houses that may be, some of each state.
func random(r *rand.Rand) []api.House {
	l, free := empty(), r.Perm(65536)
	for i := range l {
		l[i].Gen = r.Intn(65536)
		if l[i].State = r.Intn(3); l[i].State == 0 {
			continue
		}
		l[i].Gen = 1 + r.Intn(65535)
		l[i].Limit = randomLimit(r)
		l[i].Segs = slices.Clone(free[:l[i].Limit.Segs])
		slices.Sort(l[i].Segs)
		free = free[l[i].Limit.Segs:]
	}
	return l
}

func randomLimit(r *rand.Rand) api.Limit {
	l := api.Limit{Segs: 8 + r.Intn(33), HardBlocks: r.Intn(100001), HardNodes: 1 + r.Intn(255), Grace: r.Intn(most + 1), Budget: r.Intn(1001)}
	l.SoftBlocks = r.Intn(l.HardBlocks + 1)
	l.SoftNodes = 1 + r.Intn(l.HardNodes)
	return l
}

// plain is what P6.2 says of the bytes, without a look at the houses.
func plain(num int, l []api.House) string {
	var b []byte
	number := func(v, n int) {
		var all [8]byte
		binary.LittleEndian.PutUint64(all[:], uint64(v))
		b = append(b, all[:n]...)
	}
	b = append(b, 'B', 'G', 'T', 'B')
	number(num, 6)
	for _, h := range l {
		number(h.State, 1)
		number(h.Gen, 2)
		number(h.Limit.Segs, 1)
		number(h.Limit.HardBlocks, 3)
		number(h.Limit.SoftBlocks, 3)
		number(h.Limit.HardNodes, 1)
		number(h.Limit.SoftNodes, 1)
		number(h.Limit.Grace, 6)
		number(h.Limit.Budget, 2)
		number(len(h.Segs), 1)
		var segs [40]int
		copy(segs[:], h.Segs)
		for _, seg := range segs {
			number(seg, 2)
		}
	}
	b = append(b, make([]byte, sumAt-len(b))...)
	return summed(string(b))
}

// summed is a text with the right sum in place of its last four bytes, or
// behind it, if they are not there yet.
func summed(s string) string {
	s = s[:min(len(s), sumAt)]
	return s + string(binary.LittleEndian.AppendUint32(nil, crc32.ChecksumIEEE([]byte(s))))
}

// with is a text with other bytes at a place.
func with(s string, at int, bytes string) string { return s[:at] + bytes + s[at+len(bytes):] }

// withNumber is a text with a number of n bytes at a place, and the right sum.
func withNumber(s string, at, n, v int) string {
	b := binary.LittleEndian.AppendUint64(nil, uint64(v))
	return summed(with(s, at, string(b[:n])))
}

func rowAt(i int) int { return firstAt + i*rowBytes }

// told are the houses of a list that are something, by their places.
func told(l []api.House) map[int]api.House {
	m := map[int]api.House{}
	for i, h := range l {
		if !sameHouse(h, api.House{}) {
			m[i] = h
		}
	}
	return m
}

func limitMay(t *testing.T, l api.Limit, want bool) {
	t.Helper()
	if got := table.CheckLimit(l); got != want {
		t.Errorf("CheckLimit(%+v): %v", l, got)
	}
}

func may(t *testing.T, segs int, l []api.House) {
	t.Helper()
	if !table.Check(segs, l) {
		t.Errorf("Check(%d, %d houses, %+v): false", segs, len(l), told(l))
	}
}

func mayNot(t *testing.T, segs int, l []api.House) {
	t.Helper()
	if table.Check(segs, l) {
		t.Errorf("Check(%d, %d houses, %+v): true", segs, len(l), told(l))
	}
}

func puts(t *testing.T, num int, l []api.House) string {
	t.Helper()
	s, ok := table.Put(num, l)
	if want := plain(num, l); !ok || s != want {
		t.Fatalf("Put(%d, %d houses, %+v): %x, %v, want %x", num, len(l), told(l), s, ok, want)
	}
	return s
}

func putsNot(t *testing.T, num int, l []api.House) {
	t.Helper()
	if s, ok := table.Put(num, l); ok || s != "" {
		t.Errorf("Put(%d, %d houses, %+v): %d bytes, %v", num, len(l), told(l), len(s), ok)
	}
}

func gets(t *testing.T, s string, num int, l []api.House) {
	t.Helper()
	n, got, ok := table.Get(s)
	if !ok || n != num || !same(got, l) {
		t.Errorf("Get: %d, %d houses, %+v, %v, want %d, %+v", n, len(got), told(got), ok, num, told(l))
	}
}

func getsNot(t *testing.T, what string, s string) {
	t.Helper()
	if n, l, ok := table.Get(s); ok || n != 0 || len(l) != 0 {
		t.Errorf("Get, %s: %d, %d houses, %v", what, n, len(l), ok)
	}
}

// refused are houses that neither Check, of any number of segments, nor Put
// take.
func refused(t *testing.T, l []api.House) {
	t.Helper()
	mayNot(t, 65536, l)
	mayNot(t, math.MaxInt, l)
	putsNot(t, 1, l)
}

// taken are houses that may be, of 65536 segments; they are put and got.
func taken(t *testing.T, l []api.House) {
	t.Helper()
	may(t, 65536, l)
	gets(t, puts(t, 1, l), 1, l)
}

func TestLimitsThatTheTestsWriteOut(t *testing.T) {
	if api.MinSegs != 8 || api.MaxSegs != 40 || api.MaxNodes != 255 || api.MaxTick != most || api.MaxBudget != 1000 || api.MaxHouses != 16 || api.Block != 256 {
		t.Error("the limits are others than those that these tests write out")
	}
}

// P6.1: CheckLimit

func TestLimitsThatMayBe(t *testing.T) {
	for _, l := range []api.Limit{limit(), least(), greatest()} {
		limitMay(t, l, true)
	}
	r := rand.New(rand.NewSource(61))
	for range 2000 {
		limitMay(t, randomLimit(r), true)
	}
}

func TestTheZeroLimitMayNotBe(t *testing.T) { limitMay(t, api.Limit{}, false) }

func TestEachNumberOfALimitAtItsEdges(t *testing.T) {
	for _, p := range places() {
		for v, want := range map[int]bool{
			p.first: true, p.first + 1: true, p.last - 1: true, p.last: true,
			p.first - 1: false, p.last + 1: false, -1: false, math.MinInt: false, math.MaxInt: false,
		} {
			l := limit()
			*p.of(&l) = v
			limitMay(t, l, want)
		}
	}
}

func TestEachNumberOfALimitAtItsExtremes(t *testing.T) {
	for _, p := range places() {
		for _, v := range extremes() {
			for _, l := range []api.Limit{limit(), least(), greatest(), {}} {
				*p.of(&l) = v
				limitMay(t, l, false)
			}
		}
	}
}

func TestHardNumbersAtTheirOwnEdges(t *testing.T) {
	for hard, want := range map[int]bool{-1: false, 0: true, 1: true, 99999: true, 100000: true, 100001: false} {
		l := limit()
		l.HardBlocks, l.SoftBlocks = hard, 0
		limitMay(t, l, want)
	}
	for hard, want := range map[int]bool{-1: false, 0: false, 1: true, 254: true, 255: true, 256: false} {
		l := limit()
		l.HardNodes, l.SoftNodes = hard, 1
		limitMay(t, l, want)
	}
}

func TestSoftIsAtMostHard(t *testing.T) {
	for _, hard := range []int{0, 1, 2, 500, 65535, 65536, 99999, 100000} {
		for soft, want := range map[int]bool{0: true, hard: true, hard + 1: false, -1: false} {
			l := limit()
			l.HardBlocks, l.SoftBlocks = hard, soft
			limitMay(t, l, want)
		}
	}
	for hard := 1; hard <= 255; hard++ {
		for soft, want := range map[int]bool{1: true, hard: true, hard + 1: false, 0: false, -1: false} {
			l := limit()
			l.HardNodes, l.SoftNodes = hard, soft
			limitMay(t, l, want)
		}
	}
}

func TestSoftAndHardBeyondTheirBoundsAreRefused(t *testing.T) {
	for _, v := range append(extremes(), 100001) {
		l := limit()
		l.HardBlocks, l.SoftBlocks = v, v
		limitMay(t, l, false)
	}
	for _, v := range append(extremes(), 0, 256) {
		l := limit()
		l.HardNodes, l.SoftNodes = v, v
		limitMay(t, l, false)
	}
}

// P6.1: Check

func TestHousesThatMayBe(t *testing.T) {
	taken(t, empty())
	taken(t, some())
	taken(t, full())
	r := rand.New(rand.NewSource(62))
	for range 100 {
		taken(t, random(r))
	}
}

func TestHowManyHouses(t *testing.T) {
	for n := range 40 {
		if l := make([]api.House, n); n == 16 {
			taken(t, l)
		} else {
			refused(t, l)
		}
	}
	refused(t, nil)
	refused(t, some()[:15])
	refused(t, some()[1:])
	refused(t, append(some(), api.House{}))
}

// A longer list of which the first sixteen are handed in: the rest is nothing.
func TestSpareRoomBehindTheHousesIsNothing(t *testing.T) {
	l := append(some(), some()...)
	taken(t, l[:16])
}

func TestNoHousesOfAnyNumberOfSegments(t *testing.T) {
	l := empty()
	l[3].Gen = 65535
	for _, segs := range append(extremes(), 0, 1, 8, 65536) {
		may(t, segs, l)
	}
}

func TestStates(t *testing.T) {
	for i := range 16 {
		for _, state := range []int{1, 2} {
			taken(t, lone(i, houseOf(state, 1, limit(), row(0, 8, 1))))
		}
		for _, state := range append(extremes(), 0, 3, 255, 256, 257) {
			refused(t, lone(i, houseOf(state, 1, limit(), row(0, 8, 1))))
		}
		for _, state := range append(extremes(), 1, 2, 3, 256) {
			refused(t, lone(i, api.House{State: state, Gen: 1}))
		}
	}
}

func TestGens(t *testing.T) {
	for i := range 16 {
		for _, gen := range []int{0, 1, 2, 255, 256, 65534, 65535} {
			taken(t, lone(i, api.House{Gen: gen}))
		}
		for _, gen := range []int{1, 2, 255, 256, 65534, 65535} {
			taken(t, lone(i, houseOf(1, gen, limit(), row(0, 8, 1))))
			taken(t, lone(i, houseOf(2, gen, limit(), row(0, 8, 1))))
		}
		for _, gen := range append(extremes(), 65536, 65537) {
			refused(t, lone(i, api.House{Gen: gen}))
			refused(t, lone(i, houseOf(1, gen, limit(), row(0, 8, 1))))
		}
		refused(t, lone(i, houseOf(1, 0, limit(), row(0, 8, 1))))
		refused(t, lone(i, houseOf(2, 0, limit(), row(0, 8, 1))))
	}
}

func TestAHouseThatIsNoneHasNothing(t *testing.T) {
	for i := range 16 {
		for _, segs := range [][]int{{0}, {7}, {-1}, row(0, 8, 1), row(0, 40, 1), {math.MaxInt}} {
			refused(t, lone(i, api.House{Segs: segs}))
			refused(t, lone(i, api.House{Gen: 1, Segs: segs}))
		}
		for _, l := range []api.Limit{limit(), least(), greatest()} {
			refused(t, lone(i, api.House{Limit: l}))
		}
		for _, p := range places() {
			for _, v := range append(extremes(), 1, p.first+1, p.last) {
				h := api.House{Gen: 1}
				*p.of(&h.Limit) = v
				refused(t, lone(i, h))
			}
		}
	}
}

func TestAHouseOfALimitThatMayNotBe(t *testing.T) {
	for _, p := range places() {
		for _, v := range append(extremes(), p.first-1, p.last+1) {
			for _, state := range []int{1, 2} {
				l := limit()
				*p.of(&l) = v
				refused(t, lone(4, houseOf(state, 1, l, row(0, min(max(l.Segs, 0), 50), 1))))
			}
		}
	}
	refused(t, lone(4, houseOf(1, 1, api.Limit{}, nil)))
}

func TestHowManySegs(t *testing.T) {
	for many := 8; many <= 40; many++ {
		l := limit()
		l.Segs = many
		for n := range 60 {
			if houses := lone(n%16, houseOf(1, 9, l, row(3, n, 2))); n == many {
				taken(t, houses)
			} else {
				refused(t, houses)
			}
		}
	}
	l := limit()
	for _, l.Segs = range []int{7, 41} {
		refused(t, lone(0, houseOf(1, 9, l, row(0, l.Segs, 1))))
	}
}

func TestTheLastSeg(t *testing.T) {
	for _, l := range []api.Limit{least(), greatest()} {
		for _, segs := range []int{l.Segs, l.Segs + 1, 100, 65535, 65536, 65537, 1 << 40, math.MaxInt - 1, math.MaxInt} {
			for i := range 16 {
				houses := lone(i, houseOf(1, 1, l, row(segs-l.Segs, l.Segs, 1)))
				may(t, segs, houses)
				mayNot(t, segs-1, houses)
				if segs < math.MaxInt {
					may(t, segs+1, houses)
				}
				for _, none := range []int{0, -1, math.MinInt} {
					mayNot(t, none, houses)
				}
			}
		}
	}
}

func TestSegsThatDoNotRise(t *testing.T) {
	for _, l := range []api.Limit{least(), greatest()} {
		// A step of 1: neighbours that are exchanged are but one apart.
		for step := 1; step <= 2; step++ {
			for i := range l.Segs {
				for j := range i {
					swapped := row(10, l.Segs, step)
					swapped[i], swapped[j] = swapped[j], swapped[i]
					refused(t, lone(2, houseOf(1, 1, l, swapped)))
					twice := row(10, l.Segs, step)
					twice[i] = twice[j]
					refused(t, lone(2, houseOf(1, 1, l, twice)))
				}
			}
			falling := row(10, l.Segs, step)
			slices.Reverse(falling)
			refused(t, lone(2, houseOf(2, 1, l, falling)))
		}
		refused(t, lone(2, houseOf(2, 1, l, make([]int, l.Segs))))
	}
}

func TestSegsThatAreNone(t *testing.T) {
	for place := range 8 {
		for _, v := range []int{math.MinInt, math.MinInt + 1, -1 << 40, -65536, -1} {
			segs := row(10, 8, 2)
			segs[place] = v
			refused(t, lone(6, houseOf(1, 1, limit(), segs)))
		}
		for _, v := range []int{65536, 65537, 1 << 40, math.MaxInt - 1, math.MaxInt} {
			segs := row(10, 8, 2)
			segs[place] = v
			mayNot(t, 65536, lone(6, houseOf(1, 1, limit(), segs)))
			putsNot(t, 1, lone(6, houseOf(1, 1, limit(), segs)))
		}
	}
	refused(t, lone(6, houseOf(1, 1, limit(), row(math.MinInt, 8, 1))))
	mayNot(t, math.MaxInt, lone(6, houseOf(1, 1, limit(), row(math.MaxInt-7, 8, 1))))
}

// One segment of one house is another one's, at each two places of theirs.
func TestASegmentOfTwoHouses(t *testing.T) {
	for a := range 16 {
		for b := range a {
			l := empty()
			l[a] = houseOf(1, 1, limit(), row(100, 8, 10))
			l[b] = houseOf(2, 1, limit(), row(105, 8, 10))
			taken(t, l)
			for i := range 8 {
				for j := max(i-1, 0); j <= min(i+1, 7); j++ {
					other := copied(l)
					other[b].Segs[j] = l[a].Segs[i]
					refused(t, other)
				}
			}
		}
	}
	l := full()
	l[15].Segs[39] = l[0].Segs[39] + 16
	taken(t, l)
	l[14].Segs[39] = l[15].Segs[39]
	refused(t, l)
	refused(t, []api.House{0: some()[0], 1: some()[0], 15: {}})
}

func TestOneHouseThatMayNotBeIsEnough(t *testing.T) {
	for i := range 16 {
		for _, change := range []func(h *api.House){
			func(h *api.House) { h.State = 0 },
			func(h *api.House) { h.Gen = 0 },
			func(h *api.House) { h.Limit.SoftNodes = 0 },
			func(h *api.House) { h.Segs = h.Segs[1:] },
			func(h *api.House) { h.Segs[0] = -1 },
			func(h *api.House) { *h = houseOf(1, 1, limit(), nil) },
		} {
			l := full()
			change(&l[i])
			refused(t, l)
		}
	}
}

// P6.2: Put

func TestPutTheExample(t *testing.T) {
	s, ok := table.Put(0, make([]api.House, 16))
	if !ok || len(s) != 2048 {
		t.Fatalf("%d bytes, %v", len(s), ok)
	}
	if s[:sumAt] != "BGTB"+strings.Repeat("\x00", 2040) {
		t.Errorf("%x", s)
	}
	if want := summed(s); s != want {
		t.Errorf("the sum: %x, want %x", s[sumAt:], want[sumAt:])
	}
}

func TestPutAHouseWrittenOut(t *testing.T) {
	s := puts(t, 0x0102030405, lone(1, houseOf(2, 0x1234, api.Limit{
		Segs: 9, HardBlocks: 0x018203, SoftBlocks: 0x010504, HardNodes: 0xFE, SoftNodes: 0x17, Grace: 0xA1B2C3D4E5, Budget: 0x0321,
	}, []int{1, 0x0200, 0x0201, 0x0300, 0x0ABC, 0x8000, 0xFF00, 0xFFFE, 0xFFFF})))
	want := "BGTB" + "\x05\x04\x03\x02\x01\x00" + strings.Repeat("\x00", 101) +
		"\x02" + "\x34\x12" + "\x09" + "\x03\x82\x01" + "\x04\x05\x01" + "\xfe" + "\x17" +
		"\xe5\xd4\xc3\xb2\xa1\x00" + "\x21\x03" + "\x09" +
		"\x01\x00\x00\x02\x01\x02\x00\x03\xbc\x0a\x00\x80\x00\xff\xfe\xff\xff\xff" + strings.Repeat("\x00", 62)
	if s != summed(want+strings.Repeat("\x00", 2044-len(want))) {
		t.Errorf("%x", s)
	}
}

func TestPutNums(t *testing.T) {
	for _, num := range []int{0, 1, 255, 256, 65536, 1<<32 - 1, 1 << 32, most - 1, most} {
		s := puts(t, num, some())
		gets(t, s, num, some())
		if got := binary.LittleEndian.Uint64([]byte(s[4:10] + "\x00\x00")); got != uint64(num) {
			t.Errorf("num %d: %d", num, got)
		}
	}
	for _, num := range append(extremes(), most+2) {
		putsNot(t, num, some())
		putsNot(t, num, empty())
		putsNot(t, num, nil)
	}
}

func TestPutTheEnd(t *testing.T) {
	for _, l := range [][]api.House{empty(), some(), full()} {
		s := puts(t, most, l)
		if len(s) != allBytes {
			t.Fatalf("%d bytes", len(s))
		}
		if s[housesEnd:sumAt] != strings.Repeat("\x00", 418) {
			t.Errorf("between the houses and the sum: %x", s[housesEnd:sumAt])
		}
		sum := crc32.ChecksumIEEE([]byte(s[:2044]))
		if s[2043] != 0 || s[2044] != byte(sum) || s[2047] != byte(sum>>24) {
			t.Errorf("the sum: %x, want %x", s[2044:], sum)
		}
	}
	// 15 + 39*16 is 0x027f.
	if last := puts(t, 1, full())[housesEnd-2 : housesEnd]; last != "\x7f\x02" {
		t.Errorf("the last segment of the last house: %x", last)
	}
}

// differs tells at which bytes ahead of the sum two texts differ: the first
// one, and the one behind the last.
func differs(a, b string) (first, behind int) {
	first = -1
	for i := range sumAt {
		if a[i] == b[i] {
			continue
		}
		if first < 0 {
			first = i
		}
		behind = i + 1
	}
	return first, behind
}

func standsAt(t *testing.T, what string, a, b []api.House, at, bytes int) {
	t.Helper()
	x, y := puts(t, 5, a), puts(t, 5, b)
	first, behind := differs(x, y)
	if first < at || behind > at+bytes {
		t.Errorf("%s: bytes %d to %d, want within %d to %d", what, first, behind, at, at+bytes)
	}
	if x[sumAt:] == y[sumAt:] {
		t.Errorf("%s: the sum stays", what)
	}
}

func TestWhereEachFieldStands(t *testing.T) {
	for i := range 16 {
		l, at := full(), rowAt(i)
		other := copied(l)
		other[i].State = 3 - l[i].State
		standsAt(t, "State", l, other, at, 1)
		other = copied(l)
		other[i].Gen = 256 + i
		standsAt(t, "Gen", l, other, at+1, 2)
		for _, p := range places()[1:] {
			l[i].Limit = limit()
			l[i].Limit.Segs = 40
			for _, v := range []int{p.first, p.last} {
				other = copied(l)
				if *p.of(&other[i].Limit) = v; !same(l, other) {
					standsAt(t, p.name, l, other, at+p.at, p.bytes)
				}
			}
			l[i].Limit = greatest()
		}
		for j := range 40 {
			other = copied(l)
			other[i].Segs = row(20000, 40, 257)
			for k := range j {
				other[i].Segs[k] = l[i].Segs[k]
			}
			next := copied(other)
			next[i].Segs[j]--
			standsAt(t, "a Seg", other, next, at+21+2*j, 2)
		}
	}
}

func TestHowManySegsStandTwiceAndTheRestIsNought(t *testing.T) {
	for many := 8; many <= 40; many++ {
		l := greatest()
		l.Segs = many
		for i := range 16 {
			s := puts(t, 1, lone(i, houseOf(1, 1, l, row(65536-many, many, 1))))[rowAt(i):]
			if int(s[3]) != many || int(s[20]) != many {
				t.Errorf("%d Segs: %d, %d", many, s[3], s[20])
			}
			if rest := s[21+2*many : rowBytes]; rest != strings.Repeat("\x00", 80-2*many) {
				t.Errorf("behind %d Segs: %x", many, rest)
			}
			if last := s[21+2*many-2 : 21+2*many]; last != "\xff\xff" {
				t.Errorf("the last of %d Segs: %x", many, last)
			}
		}
	}
}

func TestPutOfTheLastSegment(t *testing.T) {
	for i := range 16 {
		taken(t, lone(i, houseOf(1, 1, limit(), row(65536-8, 8, 1))))
		putsNot(t, 1, lone(i, houseOf(1, 1, limit(), row(65536-7, 8, 1))))
		may(t, 65537, lone(i, houseOf(1, 1, limit(), row(65536-7, 8, 1))))
	}
}

// P6.2: Get

func TestGetOfTextsOfOtherLengths(t *testing.T) {
	for _, s := range []string{puts(t, 0, empty()), puts(t, most, full())} {
		getsNot(t, "empty", "")
		for _, n := range []int{1, 4, 10, 111, 256, 1626, 2040, 2043, 2044, 2046, 2047} {
			getsNot(t, "cut at its end", s[:n])
			getsNot(t, "cut at its beginning", s[allBytes-n:])
		}
		for _, more := range []string{"\x00", "a", "\xff", s, strings.Repeat("\x00", 256)} {
			getsNot(t, "more behind", s+more)
			getsNot(t, "more ahead", more+s)
		}
		// The sum is right, but there are fewer or more bytes than eight blocks.
		getsNot(t, "fewer bytes", summed(s[:sumAt-1]))
		getsNot(t, "seven blocks", summed(s[:7*256-4]))
		long := s[:sumAt] + "\x00"
		getsNot(t, "more bytes", long+string(binary.LittleEndian.AppendUint32(nil, crc32.ChecksumIEEE([]byte(long)))))
	}
}

func TestGetOfOtherTexts(t *testing.T) {
	r := rand.New(rand.NewSource(63))
	noise := make([]byte, allBytes)
	for range 200 {
		r.Read(noise)
		getsNot(t, "noise", string(noise))
		getsNot(t, "noise with its sum", summed(string(noise)))
		getsNot(t, "noise behind the mark", summed("BGTB"+string(noise[4:])))
	}
	getsNot(t, "bytes 0", strings.Repeat("\x00", allBytes))
	getsNot(t, "bytes 0 with their sum", summed(strings.Repeat("\x00", allBytes)))
	getsNot(t, "bytes 255", strings.Repeat("\xff", allBytes))
	getsNot(t, "bytes 255 with their sum", summed("BGTB"+strings.Repeat("\xff", allBytes)))
}

func TestGetOfABitTurned(t *testing.T) {
	for _, s := range []string{puts(t, 0, empty()), puts(t, 77, some())} {
		b := []byte(s)
		for bit := range 8 * len(b) {
			b[bit/8] ^= 1 << (bit % 8)
			getsNot(t, "a bit turned", string(b))
			b[bit/8] ^= 1 << (bit % 8)
		}
	}
}

func TestGetOfAnotherMark(t *testing.T) {
	s := puts(t, 77, some())
	for _, mark := range []string{"BGSL", "BGTA", "bgtb", "GBTB", "BGTb", "\x00\x00\x00\x00", "    "} {
		getsNot(t, mark, summed(with(s, 0, mark)))
	}
	for at := range 4 {
		for b := range 256 {
			if byte(b) != s[at] {
				getsNot(t, "another mark", summed(with(s, at, string([]byte{byte(b)}))))
			}
		}
	}
}

func TestGetOfOtherSums(t *testing.T) {
	s := puts(t, 77, some())
	sum := crc32.ChecksumIEEE([]byte(s[:sumAt]))
	for _, other := range []uint32{0, 1, ^sum, sum + 1, sum - 1, math.MaxUint32, crc32.ChecksumIEEE([]byte(s)), crc32.ChecksumIEEE([]byte(s[4:sumAt])), crc32.ChecksumIEEE([]byte(s[:housesEnd]))} {
		getsNot(t, "another sum", s[:sumAt]+string(binary.LittleEndian.AppendUint32(nil, other)))
	}
	getsNot(t, "the sum turned round", s[:sumAt]+string(binary.BigEndian.AppendUint32(nil, sum)))
}

func TestGetOfNums(t *testing.T) {
	s := puts(t, 77, some())
	for _, num := range []int{0, 1, 78, most - 1, most} {
		gets(t, withNumber(s, 4, 6, num), num, some())
	}
	for _, num := range []int{most + 1, most + 77, 1 << 41, 1<<48 - 1, 1 << 47} {
		getsNot(t, "a num", withNumber(s, 4, 6, num))
	}
}

// Each number of each house, with the right sum, as what no Put says.
func TestGetOfNumbersThatNoPutSays(t *testing.T) {
	for i := range 16 {
		l := full()
		l[i].Limit = limit()
		l[i].Segs = l[i].Segs[:8]
		s, at := puts(t, 3, l), rowAt(i)
		for _, state := range []int{0, 3, 4, 128, 255} {
			getsNot(t, "State", withNumber(s, at, 1, state))
		}
		getsNot(t, "Gen", withNumber(s, at+1, 2, 0))
		for _, p := range places() {
			for _, v := range []int{p.first - 1, p.last + 1, 1<<(8*p.bytes) - 1, 1 << (8*p.bytes - 1)} {
				if v >= 0 && v < 1<<(8*p.bytes) && (v < p.first || v > p.last) {
					getsNot(t, p.name, withNumber(s, at+p.at, p.bytes, v))
				}
			}
		}
		for many := range 256 {
			if many != 8 {
				getsNot(t, "how many Segs", withNumber(s, at+20, 1, many))
				getsNot(t, "how many of both", withNumber(with(s, at+3, string([]byte{byte(many)})), at+20, 1, many))
			}
		}
		for j := range 8 {
			for k := range j {
				getsNot(t, "a Seg twice", withNumber(s, at+21+2*j, 2, l[i].Segs[k]))
			}
			getsNot(t, "another house's Seg", withNumber(s, at+21+2*j, 2, l[(i+1)%16].Segs[j]))
		}
		for j := 8; j < 40; j++ {
			for _, v := range []int{1, 256, 60000, 65535} {
				getsNot(t, "a Seg behind the last", withNumber(s, at+21+2*j, 2, v))
			}
		}
	}
}

func TestGetOfAHouseThatIsNoneWithSomething(t *testing.T) {
	s := puts(t, 3, empty())
	for i := range 16 {
		for at := rowAt(i) + 3; at < rowAt(i)+rowBytes; at++ {
			for _, b := range []string{"\x01", "\x08", "\x80", "\xff"} {
				getsNot(t, "something of none", summed(with(s, at, b)))
			}
		}
		for _, gen := range []int{1, 256, 65535} {
			gets(t, withNumber(s, rowAt(i)+1, 2, gen), 3, lone(i, api.House{Gen: gen}))
		}
	}
}

func TestGetOfBytesBehindTheHouses(t *testing.T) {
	for _, s := range []string{puts(t, 3, empty()), puts(t, 3, full())} {
		for at := housesEnd; at < sumAt; at++ {
			for _, b := range []string{"\x01", "\x80", "\xff"} {
				getsNot(t, "no byte 0", summed(with(s, at, b)))
			}
		}
	}
}

// A text with the right sum is refused, or put again just so.
func TestWhatIsGotIsPutAgain(t *testing.T) {
	r := rand.New(rand.NewSource(64))
	taken, texts := 0, []string{puts(t, 9, empty()), puts(t, 9, some()), puts(t, 9, full()), puts(t, 9, random(r))}
	for range 8000 {
		b := []byte(texts[r.Intn(len(texts))])
		for range 1 + r.Intn(2) {
			b[r.Intn(sumAt)] = byte(r.Intn(256) >> r.Intn(8))
		}
		s := summed(string(b))
		num, l, ok := table.Get(s)
		if !ok {
			getsNot(t, "refused", s)
			continue
		}
		taken++
		may(t, 65536, l)
		if again := puts(t, num, l); again != s {
			t.Errorf("got and put: %x, want %x", again, s)
		}
	}
	if taken == 0 {
		t.Error("all are refused")
	}
}

// P6.3

func TestWhatIsPutIsGot(t *testing.T) {
	r := rand.New(rand.NewSource(65))
	for range 300 {
		num, l := r.Intn(most+1), random(r)
		gets(t, puts(t, num, l), num, l)
	}
	for _, num := range []int{0, 1, most} {
		for _, l := range [][]api.House{empty(), some(), full()} {
			gets(t, puts(t, num, l), num, l)
		}
	}
}

func TestEachNumberIsPutAndGotAtItsEdges(t *testing.T) {
	for i := range 16 {
		for _, p := range places() {
			for _, v := range []int{p.first, p.first + 1, p.last - 1, p.last} {
				l := limit()
				*p.of(&l) = v
				taken(t, lone(i, houseOf(1, 1, l, row(0, l.Segs, 1))))
				taken(t, lone(i, houseOf(2, 65535, l, row(65536-l.Segs, l.Segs, 1))))
			}
		}
	}
}

// The rules for lists, and for what an answer hangs on

// roomy is houses whose lists, and the list of them, have spare room: enough
// for all that sixteen houses have.
func roomy(l []api.House) []api.House {
	for i := range l {
		l[i].Segs = append(make([]int, 0, len(l[i].Segs)+640), l[i].Segs...)
	}
	return append(make([]api.House, 0, len(l)+3), l...)
}

func TestWhatIsHandedInIsNotChanged(t *testing.T) {
	falling := some()
	slices.Reverse(falling[2].Segs)
	twice := some()
	twice[0].Segs = slices.Clone(twice[15].Segs)
	for _, before := range [][]api.House{some(), full(), falling, twice, some()[:9]} {
		l := roomy(copied(before))
		table.Check(65536, l)
		table.Check(7, l)
		table.Put(1, l)
		table.Put(-1, l)
		if !same(l, before) {
			t.Errorf("%+v, before: %+v", l, before)
		}
		for _, h := range l {
			if !slices.Equal(h.Segs[len(h.Segs):cap(h.Segs)], make([]int, cap(h.Segs)-len(h.Segs))) {
				t.Errorf("spare room is written: %v", h.Segs[:cap(h.Segs)])
			}
		}
		if !same(l[len(l):cap(l)], make([]api.House, 3)) {
			t.Error("spare room behind the houses is written")
		}
	}
}

func TestNothingOfWhatIsHandedInIsKept(t *testing.T) {
	l := copied(some())
	s := puts(t, 1, l)
	l[0].Segs[0], l[0].Gen, l[2].Limit.Segs = -5, -5, -5
	gets(t, s, 1, some())
	if again := puts(t, 1, some()); again != s {
		t.Error("it is put otherwise")
	}
}

func TestWhatIsAnsweredSharesNothing(t *testing.T) {
	s := puts(t, 1, full())
	_, one, _ := table.Get(s)
	_, two, _ := table.Get(s)
	for i := range one {
		// All of a list's memory, its spare room too, is written over.
		segs := one[i].Segs[:cap(one[i].Segs)]
		for j := range segs {
			segs[j] = -1
		}
		for k, h := range one {
			if k > i && !sameHouse(h, full()[k]) {
				t.Fatalf("house %d shares segments with house %d", k, i)
			}
		}
	}
	clear(one[:cap(one)])
	if !same(two, full()) {
		t.Error("two answers share something")
	}
	gets(t, s, 1, full())
}

func TestListsOfAnAnswerGrowApart(t *testing.T) {
	_, l, _ := table.Get(puts(t, 1, some()))
	for i := range l {
		l[i].Segs = append(l[i].Segs, 70000+i)
	}
	for i, h := range l {
		if want := append(some()[i].Segs, 70000+i); !slices.Equal(h.Segs, want) {
			t.Errorf("house %d: %v, want %v", i, h.Segs, want)
		}
	}
}

func TestNilAndEmptyListsAreOne(t *testing.T) {
	l := some()
	for i := range l {
		if len(l[i].Segs) == 0 {
			l[i].Segs = []int{}
		}
	}
	may(t, 65536, l)
	if puts(t, 1, l) != puts(t, 1, some()) {
		t.Error("they are put otherwise")
	}
	refused(t, []api.House{})
}

func TestAnswersHangOnTheArgumentsAlone(t *testing.T) {
	s := puts(t, 1, some())
	for range 3 {
		table.Put(2, full())
		table.Get("")
		table.Get(puts(t, 5, full()))
		gets(t, s, 1, some())
		if puts(t, 1, some()) != s {
			t.Error("it is put otherwise")
		}
	}
}
