package head_test

import (
	"encoding/binary"
	"hash/crc32"
	"math"
	"math/rand"
	"slices"
	"strings"
	"testing"

	"beguinage/api"
	"beguinage/head"
)

const (
	tick     = 1 << 40
	allBytes = 256
	sumAt    = allBytes - 4
	manyAt   = 36
	listAt   = 37
	mostList = 24
)

// place is a number ahead of the List: its first and last value, and where it
// stands.
type place struct {
	name        string
	of          func(h *api.Head) *int
	first, last int
	at, bytes   int
}

func places() []place {
	return []place{
		{"House", func(h *api.Head) *int { return &h.House }, 1, 16, 4, 1},
		{"Gen", func(h *api.Head) *int { return &h.Gen }, 1, 65535, 5, 2},
		{"Life", func(h *api.Head) *int { return &h.Life }, 1, 1<<20 - 1, 7, 3},
		{"Seq", func(h *api.Head) *int { return &h.Seq }, 1, 1 << 40, 10, 6},
		{"Next", func(h *api.Head) *int { return &h.Next }, 0, 65535, 16, 2},
		{"Clock", func(h *api.Head) *int { return &h.Clock }, 0, tick, 18, 6},
		{"SinceBlocks", func(h *api.Head) *int { return &h.SinceBlocks }, 0, tick + 1, 24, 6},
		{"SinceNodes", func(h *api.Head) *int { return &h.SinceNodes }, 0, tick + 1, 30, 6},
	}
}

func entry(kind, node, part int) api.Entry { return api.Entry{Kind: kind, Node: node, Part: part} }

// lasts are the last Node and the last Part of each kind of entry.
func lasts() map[int]api.Entry {
	return map[int]api.Entry{
		1: {Kind: api.Data, Node: 255, Part: 587},
		2: {Kind: api.Ind, Node: 255, Part: 9},
		3: {Kind: api.Ino, Node: 255, Part: 0},
		4: {Kind: api.Map, Node: 1, Part: 3},
		5: {Kind: api.Gone, Node: 255, Part: 0},
	}
}

// mayBe is P8.1's rule for an entry.
func mayBe(e api.Entry) bool {
	last, is := lasts()[e.Kind]
	return is && e.Node >= 1 && e.Node <= last.Node && e.Part >= 0 && e.Part <= last.Part
}

// extremes are numbers beyond every bound, to both ends of what there is; the
// lowest bytes of some of them are a number that may be.
func extremes() []int {
	return []int{
		math.MinInt, math.MinInt + 1, math.MinInt / 2, math.MinInt32, -tick, -65536, -65535, -256, -255, -2, -1,
		math.MaxInt, math.MaxInt - 1, math.MaxInt / 2, tick + 2, 1<<48 + 1, 1 << 56, 1<<56 + 1, 1 << 62,
	}
}

func least() api.Head { return api.Head{House: 1, Gen: 1, Life: 1, Seq: 1} }

func greatest() api.Head {
	h := api.Head{
		House: 16, Gen: 65535, Life: 1<<20 - 1, Seq: 1 << 40, Next: 65535,
		Clock: tick, SinceBlocks: tick + 1, SinceNodes: tick + 1,
	}
	for i := range mostList {
		h.List = append(h.List, lasts()[1+i%5])
	}
	return h
}

// some has another number in each byte, as far as its bounds go.
func some() api.Head {
	return api.Head{
		House: 7, Gen: 0x1234, Life: 0x0B2C3D, Seq: 0xC1C2C3C4C5, Next: 0xB1B2,
		Clock: 0x9192939495, SinceBlocks: 0xD1D2D3D4D5, SinceNodes: 0xE1E2E3E4E5,
		List: []api.Entry{
			entry(api.Data, 0x51, 0x0201), entry(api.Ind, 0x52, 8), entry(api.Ino, 0x53, 0), entry(api.Map, 1, 2), entry(api.Gone, 0x55, 0),
		},
	}
}

func bases() []api.Head { return []api.Head{least(), some(), greatest()} }

func listed(l ...api.Entry) api.Head {
	h := some()
	h.List = l
	return h
}

func randomEntry(r *rand.Rand) api.Entry {
	last := lasts()[1+r.Intn(5)]
	return entry(last.Kind, 1+r.Intn(last.Node), r.Intn(last.Part+1))
}

func random(r *rand.Rand) api.Head {
	var h api.Head
	for _, p := range places() {
		// Small numbers are as likely as great ones.
		*p.of(&h) = p.first + r.Intn(p.last-p.first+1)>>r.Intn(40)
	}
	for range r.Intn(mostList + 1) {
		h.List = append(h.List, randomEntry(r))
	}
	return h
}

// bodyOf is as many blocks as a head's List has, no two of them alike.
func bodyOf(h api.Head) string {
	b := make([]byte, allBytes*len(h.List))
	rand.New(rand.NewSource(80)).Read(b)
	return string(b)
}

// plain is what P8.1 says of the bytes ahead of the sum, without a look at
// the numbers.
func plain(h api.Head) string {
	b := []byte("BGCH")
	number := func(v, n int) { b = append(b, bytesOf(v, n)...) }
	number(h.House, 1)
	number(h.Gen, 2)
	number(h.Life, 3)
	number(h.Seq, 6)
	number(h.Next, 2)
	number(h.Clock, 6)
	number(h.SinceBlocks, 6)
	number(h.SinceNodes, 6)
	number(len(h.List), 1)
	for _, e := range h.List {
		number(e.Kind, 1)
		number(e.Node, 1)
		number(e.Part, 2)
	}
	return string(append(b, make([]byte, sumAt-len(b))...))
}

func bytesOf(v, n int) string {
	return string(binary.LittleEndian.AppendUint64(nil, uint64(v))[:n])
}

func sumOf(s string) int { return int(crc32.ChecksumIEEE([]byte(s))) }

// with is a text with other bytes at a place.
func with(s string, at int, bytes string) string { return s[:at] + bytes + s[at+len(bytes):] }

// same holds every field, and the Lists as lists: nil is an empty one.
func same(a, b api.Head) bool {
	for _, p := range places() {
		if *p.of(&a) != *p.of(&b) {
			return false
		}
	}
	return slices.Equal(a.List, b.List)
}

func putsWith(t *testing.T, h api.Head, body string) string {
	t.Helper()
	s, ok := head.Put(h, body)
	front := plain(h)
	if want := front + bytesOf(sumOf(front+body), 4); !ok || s != want {
		t.Fatalf("Put(%+v): %x, %v, want %x", h, s, ok, want)
	}
	return s
}

func puts(t *testing.T, h api.Head) string {
	t.Helper()
	return putsWith(t, h, bodyOf(h))
}

func putsNot(t *testing.T, h api.Head, body string) {
	t.Helper()
	if s, ok := head.Put(h, body); ok || s != "" {
		t.Errorf("Put(%+v, %d bytes): %x, %v", h, len(body), s, ok)
	}
}

func gets(t *testing.T, s string, h api.Head, sum int) {
	t.Helper()
	got, n, ok := head.Get(s)
	if !ok || n != sum || !same(got, h) {
		t.Errorf("Get(%x): %+v, %#x, %v, want %+v, %#x", s, got, n, ok, h, sum)
	}
}

func getsNot(t *testing.T, what, s string) {
	t.Helper()
	h, n, ok := head.Get(s)
	if ok || n != 0 || !same(h, api.Head{}) {
		t.Errorf("Get, %s (%x): %+v, %d, %v", what, s, h, n, ok)
	}
}

// taken is what may be; it is put and got.
func taken(t *testing.T, h api.Head) {
	t.Helper()
	if !head.Check(h) {
		t.Errorf("Check(%+v): false", h)
	}
	gets(t, puts(t, h), h, sumOf(plain(h)+bodyOf(h)))
}

// refused is a head that may not be: it is not put, with what body ever.
func refused(t *testing.T, h api.Head) {
	t.Helper()
	if head.Check(h) {
		t.Errorf("Check(%+v): true", h)
	}
	putsNot(t, h, bodyOf(h))
	putsNot(t, h, "")
	putsNot(t, h, strings.Repeat("b", allBytes))
}

func TestLimitsThatTheTestsWriteOut(t *testing.T) {
	if api.MaxHouses != 16 || api.MaxTick != tick || api.MaxPay != mostList || api.MaxNodes != 255 || api.MaxBlocks != 588 || api.Block != allBytes {
		t.Error("the limits are others than those that these tests write out")
	}
	for kind, e := range lasts() {
		if e.Kind != kind {
			t.Errorf("kind %d is %d", kind, e.Kind)
		}
	}
}

// P8.1: Check

func TestHeadsThatMayBe(t *testing.T) {
	for _, h := range bases() {
		taken(t, h)
	}
	r := rand.New(rand.NewSource(81))
	for range 2000 {
		taken(t, random(r))
	}
}

func TestTheZeroHeadMayNotBe(t *testing.T) { refused(t, api.Head{}) }

func TestEachNumberAtItsEdges(t *testing.T) {
	for _, p := range places() {
		for _, h := range bases() {
			for _, v := range []int{p.first, p.first + 1, (p.first + p.last) / 2, p.last - 1, p.last} {
				*p.of(&h) = v
				taken(t, h)
			}
			for _, v := range []int{p.first - 1, p.last + 1} {
				*p.of(&h) = v
				refused(t, h)
			}
		}
	}
}

func TestEachNumberAtItsExtremes(t *testing.T) {
	for _, p := range places() {
		for _, h := range bases() {
			for _, v := range extremes() {
				*p.of(&h) = v
				refused(t, h)
			}
			// Cut to its bytes it would be a number that may be.
			*p.of(&h) = p.first + 1<<(8*p.bytes)
			refused(t, h)
		}
	}
}

// The last clock is MaxTick; what is told since then is one more.
func TestClockAndSinceEndApart(t *testing.T) {
	h := least()
	h.Clock, h.SinceBlocks, h.SinceNodes = tick, tick+1, tick+1
	taken(t, h)
	h.Clock = tick + 1
	refused(t, h)
	h.Clock, h.SinceBlocks = tick, tick+2
	refused(t, h)
	h.SinceBlocks, h.SinceNodes = tick+1, tick+2
	refused(t, h)
}

// Nothing holds one number, one entry against another.
func TestNumbersDoNotHangOnEachOther(t *testing.T) {
	for _, p := range places() {
		low, high := least(), greatest()
		*p.of(&low), *p.of(&high) = p.last, p.first
		taken(t, low)
		taken(t, high)
	}
	for _, e := range lasts() {
		taken(t, listed(e, e, e))
	}
	taken(t, listed(entry(api.Gone, 3, 0), entry(api.Ino, 3, 0), entry(api.Data, 3, 0)))
}

func TestOneNumberThatMayNotBeIsEnough(t *testing.T) {
	for _, p := range places() {
		h := greatest()
		*p.of(&h)++
		refused(t, h)
		for _, q := range places() {
			other := h
			*q.of(&other) = -1
			refused(t, other)
		}
		h.List = []api.Entry{{}}
		refused(t, h)
		h.List = nil
		refused(t, h)
	}
}

func TestListsOfEachLength(t *testing.T) {
	for n := range 300 {
		h := listed(slices.Repeat([]api.Entry{entry(api.Data, 9, 300)}, n)...)
		if n <= mostList {
			taken(t, h)
		} else {
			refused(t, h)
		}
	}
	// Cut to its byte it would be a number of entries that may be.
	refused(t, listed(slices.Repeat([]api.Entry{entry(api.Ino, 1, 0)}, 1<<16)...))
}

func TestAnEmptyListIsNone(t *testing.T) {
	none, empty := least(), least()
	empty.List = []api.Entry{}
	taken(t, none)
	taken(t, empty)
	if puts(t, none) != puts(t, empty) {
		t.Error("nil and an empty List are put otherwise")
	}
}

func TestEntriesOfEachKindAtTheirEdges(t *testing.T) {
	for kind := -2; kind <= 8; kind++ {
		for _, node := range []int{-1, 0, 1, 2, 3, 128, 254, 255, 256, 257} {
			for _, part := range []int{-1, 0, 1, 2, 3, 4, 8, 9, 10, 63, 255, 256, 586, 587, 588, 65535, 65536} {
				e := entry(kind, node, part)
				if h := listed(e); mayBe(e) {
					taken(t, h)
				} else {
					refused(t, h)
				}
			}
		}
	}
}

func TestEachPartOfEachKind(t *testing.T) {
	for _, last := range lasts() {
		for part := -300; part < 1000; part++ {
			e := entry(last.Kind, 1, part)
			if got, want := head.Check(listed(e)), part >= 0 && part <= last.Part; got != want {
				t.Errorf("Check of %+v: %v", e, got)
			}
		}
	}
}

func TestEachNodeOfEachKind(t *testing.T) {
	for _, last := range lasts() {
		for node := -300; node < 600; node++ {
			e := entry(last.Kind, node, last.Part)
			if got, want := head.Check(listed(e)), node >= 1 && node <= last.Node; got != want {
				t.Errorf("Check of %+v: %v", e, got)
			}
		}
	}
}

func TestEntriesAtTheirExtremes(t *testing.T) {
	for _, last := range lasts() {
		for _, v := range extremes() {
			for _, e := range []api.Entry{
				entry(v, last.Node, last.Part), entry(last.Kind, v, last.Part), entry(last.Kind, last.Node, v), entry(v, v, v),
				entry(v, 1, 0), entry(last.Kind, v, 0), entry(last.Kind, 1, v),
			} {
				refused(t, listed(e))
			}
		}
		// Cut to their bytes they would be numbers that may be.
		refused(t, listed(entry(last.Kind+256, 1, 0)))
		refused(t, listed(entry(last.Kind, 1+256, 0)))
		refused(t, listed(entry(last.Kind, 1, 1<<16)))
	}
}

func TestAMapsNodeIsOne(t *testing.T) {
	for part := range 4 {
		taken(t, listed(entry(api.Map, 1, part)))
		for _, node := range []int{-1, 0, 2, 3, 254, 255, 256, 257} {
			refused(t, listed(entry(api.Map, node, part)))
		}
	}
}

func TestOneEntryThatMayNotBeIsEnough(t *testing.T) {
	for _, wrong := range []api.Entry{
		{}, entry(6, 1, 0), entry(api.Data, 0, 0), entry(api.Data, 256, 0), entry(api.Ind, 1, 10), entry(api.Map, 2, 0), entry(api.Ino, 1, 1),
	} {
		for at := range mostList {
			h := greatest()
			h.List[at] = wrong
			refused(t, h)
		}
	}
}

// P8.1: Put

func TestPutTheExample(t *testing.T) {
	want := "BGCH\x01\x01\x00\x01\x00\x00\x01" + strings.Repeat("\x00", 241)
	s, ok := head.Put(least(), "")
	if !ok || s != want+bytesOf(sumOf(want), 4) {
		t.Errorf("%x, %v", s, ok)
	}
	gets(t, s, least(), sumOf(want))
}

func TestPutAHeadWrittenOut(t *testing.T) {
	want := "BGCH" + "\x07" + "\x34\x12" + "\x3d\x2c\x0b" + "\xc5\xc4\xc3\xc2\xc1\x00" + "\xb2\xb1" +
		"\x95\x94\x93\x92\x91\x00" + "\xd5\xd4\xd3\xd2\xd1\x00" + "\xe5\xe4\xe3\xe2\xe1\x00" +
		"\x05" + "\x01\x51\x01\x02" + "\x02\x52\x08\x00" + "\x03\x53\x00\x00" + "\x04\x01\x02\x00" + "\x05\x55\x00\x00"
	want += strings.Repeat("\x00", 252-len(want))
	body := strings.Repeat("abcdefgh", 5*32)
	s, ok := head.Put(some(), body)
	if sum := sumOf(want + body); !ok || s != want+bytesOf(sum, 4) {
		t.Errorf("%x, %v", s, ok)
	}
}

func TestEachNumberStandsInItsBytes(t *testing.T) {
	other := puts(t, some())
	for _, p := range places() {
		for _, v := range []int{p.first, p.last} {
			h := some()
			*p.of(&h) = v
			s := puts(t, h)
			if s[p.at:p.at+p.bytes] != bytesOf(v, p.bytes) {
				t.Errorf("%s: %x, want %d", p.name, s[p.at:p.at+p.bytes], v)
			}
			// No other byte ahead of the sum hangs on it.
			if s[:p.at] != other[:p.at] || s[p.at+p.bytes:sumAt] != other[p.at+p.bytes:sumAt] {
				t.Errorf("%s: %x, want nothing but bytes %d to %d turned of %x", p.name, s, p.at, p.at+p.bytes, other)
			}
			if s[sumAt:] == other[sumAt:] {
				t.Errorf("%s: the sum stays", p.name)
			}
		}
	}
}

func TestTheNumbersFollowEachOther(t *testing.T) {
	at := len("BGCH")
	for _, p := range places() {
		if p.at != at {
			t.Errorf("%s is told to stand at %d, want %d", p.name, p.at, at)
		}
		at += p.bytes
	}
	if at != manyAt || manyAt+1 != listAt {
		t.Errorf("the numbers end at %d", at)
	}
}

func TestEachEntryStandsInItsBytes(t *testing.T) {
	r := rand.New(rand.NewSource(82))
	for n := range mostList + 1 {
		h := some()
		h.List = nil
		for range n {
			h.List = append(h.List, randomEntry(r))
		}
		s := puts(t, h)
		if int(s[manyAt]) != n {
			t.Errorf("%d of List: %d", n, s[manyAt])
		}
		for i, e := range h.List {
			at := listAt + 4*i
			if int(s[at]) != e.Kind || int(s[at+1]) != e.Node || int(s[at+2])+256*int(s[at+3]) != e.Part {
				t.Errorf("%+v at %d: %x", e, at, s[at:at+4])
			}
		}
		if nought := s[listAt+4*n : sumAt]; nought != strings.Repeat("\x00", len(nought)) {
			t.Errorf("behind %d of List: %x", n, nought)
		}
	}
}

func TestPutTheEnd(t *testing.T) {
	for _, h := range bases() {
		s := puts(t, h)
		if len(s) != allBytes {
			t.Fatalf("%d bytes", len(s))
		}
		// The last byte ahead of the bytes 0, the last one ahead of the sum.
		end := listAt + 4*len(h.List)
		if s[end:sumAt] != strings.Repeat("\x00", sumAt-end) {
			t.Errorf("between the List and the sum: %x", s[end:sumAt])
		}
		sum := sumOf(s[:252] + bodyOf(h))
		if s[251] != 0 || s[252] != byte(sum) || s[253] != byte(sum>>8) || s[254] != byte(sum>>16) || s[255] != byte(sum>>24) {
			t.Errorf("the sum: %x, want %x", s[252:], sum)
		}
	}
	// Part 587 is 0x024b: the longest head that may be ends in byte 132.
	h := greatest()
	h.List[mostList-1] = lasts()[api.Data]
	if s := puts(t, h); s[129:134] != "\x01\xff\x4b\x02\x00" {
		t.Errorf("the last entry: %x", s[129:134])
	}
}

func TestPutBodiesOfOtherLengths(t *testing.T) {
	for _, h := range append(bases(), listed(entry(api.Ino, 1, 0))) {
		whole := allBytes * len(h.List)
		long := strings.Repeat("b", whole+2*allBytes)
		putsWith(t, h, long[:whole])
		for _, n := range []int{0, 1, 255, 256, 257, 512, whole - 256, whole - 255, whole - 1, whole + 1, whole + 255, whole + 256, whole + 512} {
			if n >= 0 && n != whole {
				putsNot(t, h, long[:n])
			}
		}
	}
}

func TestTheSumHangsOnTheBody(t *testing.T) {
	h := some()
	body := bodyOf(h)
	s := putsWith(t, h, body)
	for bit := 0; bit < 8*len(body); bit += 7 {
		b := []byte(body)
		b[bit/8] ^= 1 << (bit % 8)
		other := putsWith(t, h, string(b))
		if other[:sumAt] != s[:sumAt] || other[sumAt:] == s[sumAt:] {
			t.Errorf("bit %d of the body turned: %x, before: %x", bit, other, s)
		}
	}
}

// P8.1: Sum

func TestSumOfBlocksOfEachLength(t *testing.T) {
	r := rand.New(rand.NewSource(83))
	long := make([]byte, 3*allBytes)
	r.Read(long)
	for _, body := range []string{"", "\x00", "b", bodyOf(some())} {
		for n := range len(long) {
			block := string(long[:n])
			want := sumOf(block[:min(n, 252)] + body)
			if got := head.Sum(block, body); got != want {
				t.Errorf("Sum of %d bytes and %d: %#x, want %#x", n, len(body), got, want)
			}
		}
	}
}

func TestSumOfKnownTexts(t *testing.T) {
	for _, both := range [][2]string{{"", "123456789"}, {"1", "23456789"}, {"12345678", "9"}, {"123456789", ""}} {
		if got := head.Sum(both[0], both[1]); got != 0xCBF43926 {
			t.Errorf("Sum(%q, %q): %#x", both[0], both[1], got)
		}
	}
	if got := head.Sum("", ""); got != 0 {
		t.Errorf("Sum of nothing: %d", got)
	}
	// A sum whose highest bit is 1 is not below 0.
	if got := head.Sum("\xff", ""); got != 0xFF000000 {
		t.Errorf("Sum of a byte 255: %#x", got)
	}
}

func TestSumLeavesTheBlocksEndOut(t *testing.T) {
	for _, h := range bases() {
		body := bodyOf(h)
		s := puts(t, h)
		want := int(binary.LittleEndian.Uint32([]byte(s[sumAt:])))
		for _, block := range []string{s, s[:sumAt], s[:sumAt] + "abcd", s[:sumAt] + "a", s + "more", s + body} {
			if got := head.Sum(block, body); got != want {
				t.Errorf("Sum of %d bytes: %#x, want %#x", len(block), got, want)
			}
		}
		if head.Sum(s[:sumAt-1], body) == want || head.Sum(s, body+"\x00") == want {
			t.Error("a byte less or more leaves the sum")
		}
	}
}

// P8.1: Get

func TestGetOfShorterTexts(t *testing.T) {
	for _, h := range bases() {
		s := puts(t, h)
		for n := range allBytes {
			getsNot(t, "cut at its end", s[:n])
			getsNot(t, "cut at its beginning", s[allBytes-n:])
		}
	}
}

func TestGetTakesWhatStandsBehind(t *testing.T) {
	r := rand.New(rand.NewSource(84))
	noise := make([]byte, 3000)
	r.Read(noise)
	for _, h := range bases() {
		s, sum := puts(t, h), sumOf(plain(h)+bodyOf(h))
		for _, more := range []string{"", "\x00", "a", "\xff", s, bodyOf(h), strings.Repeat("\x00", 256), string(noise)} {
			gets(t, s+more, h, sum)
		}
		for n := range 300 {
			gets(t, s+string(noise[:n]), h, sum)
		}
	}
}

// The sum is told, not asked.
func TestGetOfOtherSums(t *testing.T) {
	for _, h := range bases() {
		s := puts(t, h)
		sum := sumOf(plain(h) + bodyOf(h))
		for _, other := range []int{0, 1, 255, 256, 1 << 24, 1<<31 - 1, 1 << 31, 1<<32 - 1, sum, sum ^ 1, sumOf(s), sumOf(s[:sumAt]), 0x64636261} {
			gets(t, s[:sumAt]+bytesOf(other, 4), h, other)
			gets(t, s[:sumAt]+bytesOf(other, 4)+"more", h, other)
		}
		for bit := range 32 {
			gets(t, s[:sumAt]+bytesOf(sum^1<<bit, 4), h, sum^1<<bit)
		}
	}
}

// A bit turned ahead of the sum makes another head that may be, or none.
func TestGetOfABitTurned(t *testing.T) {
	for _, h := range bases() {
		s, end := puts(t, h), listAt+4*len(h.List)
		sum := int(binary.LittleEndian.Uint32([]byte(s[sumAt:])))
		for bit := range 8 * sumAt {
			u := with(s, bit/8, string([]byte{s[bit/8] ^ 1<<(bit%8)}))
			got, n, ok := head.Get(u)
			switch {
			case bit/8 < 4, bit/8 == manyAt, bit/8 >= end, !ok:
				getsNot(t, "a bit turned", u)
			case n != sum || same(got, h) || plain(got) != u[:sumAt]:
				t.Errorf("bit %d turned: %+v, %#x", bit, got, n)
			}
		}
	}
}

func TestGetOfAnotherMark(t *testing.T) {
	s := puts(t, some())
	for _, mark := range []string{"BGTB", "BGSL", "BGND", "bgch", "HCGB", "\x00\x00\x00\x00", "    "} {
		getsNot(t, mark, with(s, 0, mark))
	}
	for at := range 4 {
		for b := range 256 {
			if byte(b) != s[at] {
				getsNot(t, "another mark", with(s, at, string([]byte{byte(b)})))
			}
		}
	}
}

func TestGetOfEachNumber(t *testing.T) {
	for _, p := range places() {
		for _, h := range bases() {
			s := puts(t, h)
			sum := int(binary.LittleEndian.Uint32([]byte(s[sumAt:])))
			for _, v := range []int{p.first, p.first + 1, p.last - 1, p.last} {
				*p.of(&h) = v
				gets(t, with(s, p.at, bytesOf(v, p.bytes)), h, sum)
			}
			for _, v := range []int{0, p.last + 1, p.last + 2, 2 * p.last, 1 << (8*p.bytes - 1), 1<<(8*p.bytes) - 1} {
				if (v < p.first || v > p.last) && v < 1<<(8*p.bytes) {
					getsNot(t, p.name, with(s, p.at, bytesOf(v, p.bytes)))
				}
			}
		}
	}
}

func TestGetOfEachEntry(t *testing.T) {
	for at := range mostList {
		h := greatest()
		s := puts(t, h)
		sum := int(binary.LittleEndian.Uint32([]byte(s[sumAt:])))
		for kind := range 256 {
			for _, node := range []int{0, 1, 2, 255} {
				for _, part := range []int{0, 1, 3, 4, 9, 10, 255, 256, 587, 588, 65535} {
					e := entry(kind, node, part)
					u := with(s, listAt+4*at, bytesOf(kind, 1)+bytesOf(node, 1)+bytesOf(part, 2))
					if h.List[at] = e; mayBe(e) {
						gets(t, u, h, sum)
					} else {
						getsNot(t, "an entry", u)
					}
				}
			}
		}
	}
}

func TestGetOfOtherNumbersOfEntries(t *testing.T) {
	for _, h := range bases() {
		s := puts(t, h)
		for n := range 256 {
			if n != len(h.List) {
				getsNot(t, "another number of entries", with(s, manyAt, bytesOf(n, 1)))
			}
		}
	}
	// Entries that may be stand in all of the block's bytes: whatever their
	// number is told to be, it is too great, or some stand behind it.
	s := puts(t, least())
	full := with(s, listAt, strings.Repeat("\x01\x01\x00\x00", (sumAt-listAt)/4))
	for n := range 256 {
		getsNot(t, "too many entries", with(full, manyAt, bytesOf(n, 1)))
	}
	// One more than MaxPay, and so many entries.
	getsNot(t, "one entry too many", with(with(puts(t, greatest()), manyAt, "\x19"), listAt+4*mostList, "\x01\x01\x00\x00"))
}

func TestGetOfBytesBehindTheList(t *testing.T) {
	for _, h := range bases() {
		s := puts(t, h)
		for at := listAt + 4*len(h.List); at < sumAt; at++ {
			for _, b := range []string{"\x01", "\x80", "\xff", " "} {
				getsNot(t, "no byte 0", with(s, at, b))
			}
		}
	}
}

func TestGetOfOtherTexts(t *testing.T) {
	r := rand.New(rand.NewSource(85))
	noise := make([]byte, allBytes)
	for range 1000 {
		r.Read(noise)
		getsNot(t, "noise", string(noise))
		getsNot(t, "noise behind the mark", "BGCH"+string(noise[4:]))
		getsNot(t, "noise as numbers", "BGCH"+string(noise[4:listAt])+strings.Repeat("\x00", allBytes-listAt))
	}
	getsNot(t, "empty", "")
	getsNot(t, "bytes 0", strings.Repeat("\x00", allBytes))
	getsNot(t, "bytes 0 behind the mark", "BGCH"+strings.Repeat("\x00", allBytes))
	getsNot(t, "bytes 255", strings.Repeat("\xff", allBytes))
	getsNot(t, "bytes 255 behind the mark", "BGCH"+strings.Repeat("\xff", allBytes))
	getsNot(t, "a byte ahead", "\x00"+puts(t, some()))
	getsNot(t, "a block ahead", strings.Repeat("\x00", allBytes)+puts(t, some()))
}

// What is got is written again just so, but for its sum.
func TestWhatIsGotIsPutAgain(t *testing.T) {
	r := rand.New(rand.NewSource(86))
	got, texts := 0, []string{puts(t, least()), puts(t, some()), puts(t, greatest()), puts(t, random(r))}
	for range 20000 {
		b := []byte(texts[r.Intn(len(texts))])
		for range 1 + r.Intn(2) {
			b[r.Intn(listAt+4*mostList+4)] = byte(r.Intn(256) >> r.Intn(8))
		}
		s := string(b)
		h, _, ok := head.Get(s)
		if !ok {
			getsNot(t, "refused", s)
			continue
		}
		got++
		if again := puts(t, h); again[:sumAt] != s[:sumAt] {
			t.Errorf("got and put: %x, want %x", again, s)
		}
	}
	if got == 0 {
		t.Error("all are refused")
	}
}

// P8.2

func TestWhatIsPutIsGot(t *testing.T) {
	r := rand.New(rand.NewSource(87))
	for range 5000 {
		h := random(r)
		body := make([]byte, allBytes*len(h.List))
		r.Read(body)
		s := putsWith(t, h, string(body))
		gets(t, s, h, head.Sum(s, string(body)))
		gets(t, s+string(body), h, head.Sum(s, string(body)))
	}
}

func TestEveryTwoNumbersArePutAndGotAtTheirEdges(t *testing.T) {
	for _, p := range places() {
		for _, q := range places() {
			for _, h := range bases() {
				*p.of(&h), *q.of(&h) = p.first, q.last
				taken(t, h)
			}
		}
	}
}

func TestOtherHeadsAreOtherBytes(t *testing.T) {
	r := rand.New(rand.NewSource(88))
	seen := map[string]api.Head{}
	for range 5000 {
		h := random(r)
		s := puts(t, h)[:sumAt]
		if other, there := seen[s]; there && !same(h, other) {
			t.Errorf("%+v and %+v: %x", h, other, s)
		}
		seen[s] = h
	}
}

// The rules for what is handed in, and for what an answer hangs on

func TestWhatIsHandedInIsNotChanged(t *testing.T) {
	wrong := greatest()
	wrong.List[7].Part = -1
	for _, h := range append(bases(), wrong, api.Head{}) {
		// The List's spare room is not changed either.
		room := append(slices.Clone(h.List), entry(71, 72, 73), entry(74, 75, 76))
		before := slices.Clone(room)
		h.List = room[:len(h.List)]
		kept := h
		head.Check(h)
		head.Put(h, bodyOf(h))
		head.Put(h, "b")
		if !same(h, kept) || !slices.Equal(room, before) {
			t.Errorf("%+v, %+v, before: %+v, %+v", h, room, kept, before)
		}
	}
}

func TestWhatIsPutIsNotKept(t *testing.T) {
	h := some()
	s := puts(t, h)
	clear(h.List)
	h.House++
	gets(t, s, some(), sumOf(plain(some())+bodyOf(some())))
	if puts(t, some()) != s {
		t.Error("it is put otherwise")
	}
}

func TestWhatIsAnsweredIsTheCallersOwn(t *testing.T) {
	s := puts(t, some())
	first, sum, _ := head.Get(s)
	second, _, _ := head.Get(s)
	room := first.List[:cap(first.List)]
	for i := range room {
		room[i] = entry(99, 99, 99)
	}
	first.House = 99
	if !same(second, some()) {
		t.Errorf("two answers have one List: %+v", second)
	}
	if slices.Contains(second.List[:cap(second.List)], entry(99, 99, 99)) {
		t.Error("two answers have one spare room")
	}
	gets(t, s, some(), sum)
}

func TestAnswersHangOnTheArgumentsAlone(t *testing.T) {
	s := puts(t, some())
	for range 3 {
		putsNot(t, api.Head{}, "")
		putsNot(t, some(), "")
		getsNot(t, "empty", "")
		taken(t, greatest())
		taken(t, some())
		if puts(t, some()) != s {
			t.Error("it is put otherwise")
		}
	}
}
