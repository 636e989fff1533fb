package span_test

import (
	"fmt"
	"math"
	"math/rand"
	"slices"
	"strings"
	"testing"

	"beguinage/api"
	"beguinage/span"
)

const (
	direct   = 12
	fan      = 64
	kids     = 8
	blocks   = 588
	allBytes = 256
	size     = 150528
	// ptrBytes is where the pointers of a block end.
	ptrBytes = 128
)

// way is what Way answers.
type way struct {
	kind, kid, at int
	ok            bool
}

func wayOf(i int) way {
	kind, kid, at, ok := span.Way(i)
	return way{kind, kid, at, ok}
}

// plainWays are the ways of all blocks of a file, counted off one by one as
// P10.1 says them.
func plainWays() []way {
	var l []way
	for at := range direct {
		l = append(l, way{0, 0, at, true})
	}
	for at := range fan {
		l = append(l, way{1, 0, at, true})
	}
	for kid := range kids {
		for at := range fan {
			l = append(l, way{2, kid, at, true})
		}
	}
	return l
}

// plainInds is P10.1's rule, by the names of the blocks of pointers.
func plainInds(l []int) int {
	ways, names := plainWays(), map[string]bool{}
	for _, i := range l {
		if i < 0 || i >= len(ways) {
			continue
		}
		switch w := ways[i]; w.kind {
		case 1:
			names["single"] = true
		case 2:
			names["double"] = true
			names[fmt.Sprint("kid ", w.kid)] = true
		}
	}
	return len(names)
}

// noBlocks are numbers that are no block of a file, to both ends of what there
// is; the lowest bits of some of them are a block.
func noBlocks() []int {
	return []int{
		math.MinInt, math.MinInt + 1, math.MinInt + 76, math.MinInt / 2, math.MinInt32, -1 << 40, -65536, -65524, -588, -576, -512,
		-76, -65, -64, -63, -13, -12, -11, -2, -1,
		588, 589, 600, 652, 1024, 1 << 15, 1 << 16, 1<<16 + 76, 1 << 32, 1<<32 + 12, 1<<32 + 76, 1 << 40, 1 << 62,
		math.MaxInt32, math.MaxInt / 2, math.MaxInt - 76, math.MaxInt - 1, math.MaxInt,
	}
}

func allBlocks() []int {
	l := make([]int, blocks)
	for i := range l {
		l[i] = i
	}
	return l
}

// row is the numbers from one on up to another one, that one left out.
func row(from, to int) []int { return allBlocks()[from:to] }

func TestLimitsThatTheTestsWriteOut(t *testing.T) {
	if api.Direct != direct || api.Fan != fan || api.MaxBlocks != blocks || api.Block != allBytes || api.MaxSize != size {
		t.Error("the limits are others than those that these tests write out")
	}
}

func TestKinds(t *testing.T) {
	if span.Straight != 0 || span.Single != 1 || span.Double != 2 {
		t.Errorf("%d, %d, %d", span.Straight, span.Single, span.Double)
	}
	// They have no type of their own: whatever counts them takes them.
	var b byte = span.Double
	if b != 2 {
		t.Error(b)
	}
}

// P10.1: Way

func TestWayTheExample(t *testing.T) {
	if got := wayOf(12); got != (way{span.Single, 0, 0, true}) {
		t.Errorf("%+v", got)
	}
}

func TestWayAtTheEdges(t *testing.T) {
	for _, x := range []struct {
		what string
		i    int
		want way
	}{
		{"the first block", 0, way{span.Straight, 0, 0, true}},
		{"the one behind it", 1, way{span.Straight, 0, 1, true}},
		{"the last Straight one", direct - 1, way{span.Straight, 0, 11, true}},
		{"the first Single one", direct, way{span.Single, 0, 0, true}},
		{"the last Single one", direct + fan - 1, way{span.Single, 0, 63, true}},
		{"the first Double one", direct + fan, way{span.Double, 0, 0, true}},
		{"the last pointer of the first kid", direct + 2*fan - 1, way{span.Double, 0, 63, true}},
		{"the first pointer of the second kid", direct + 2*fan, way{span.Double, 1, 0, true}},
		{"the last pointer of the second kid", direct + 3*fan - 1, way{span.Double, 1, 63, true}},
		{"the last pointer of the kid ahead of the last", direct + 8*fan - 1, way{span.Double, 6, 63, true}},
		{"the first pointer of the last kid", direct + 8*fan, way{span.Double, 7, 0, true}},
		{"the last block", blocks - 1, way{span.Double, 7, 63, true}},
		{"behind the last block", blocks, way{}},
		{"ahead of the first block", -1, way{}},
	} {
		if got := wayOf(x.i); got != x.want {
			t.Errorf("%s: Way(%d): %+v, want %+v", x.what, x.i, got, x.want)
		}
	}
}

func TestWayOfEachBlock(t *testing.T) {
	ways := plainWays()
	if len(ways) != blocks {
		t.Fatalf("%d ways are counted off", len(ways))
	}
	for i, want := range ways {
		if got := wayOf(i); got != want {
			t.Errorf("Way(%d): %+v, want %+v", i, got, want)
		}
	}
}

func TestWayOfNoBlock(t *testing.T) {
	for _, i := range noBlocks() {
		if got := wayOf(i); got != (way{}) {
			t.Errorf("Way(%d): %+v", i, got)
		}
	}
	for by := 1; by < 70000; by++ {
		if got := wayOf(-by); got != (way{}) {
			t.Errorf("Way(%d): %+v", -by, got)
		}
		if got := wayOf(blocks - 1 + by); got != (way{}) {
			t.Errorf("Way(%d): %+v", blocks-1+by, got)
		}
	}
}

// P10.1: Inds

func needs(t *testing.T, what string, l []int, want int) {
	t.Helper()
	before := slices.Clone(l)
	if got := span.Inds(l); got != want {
		t.Errorf("%s: Inds(%v): %d, want %d", what, l, got, want)
	}
	if !slices.Equal(l, before) {
		t.Errorf("%s: %v was handed in, and is %v", what, before, l)
	}
}

func TestIndsOfSomeBlocks(t *testing.T) {
	firstOfKids := []int{76, 140, 204, 268, 332, 396, 460, 524}
	lastOfKids := []int{139, 203, 267, 331, 395, 459, 523, 587}
	for _, x := range []struct {
		what string
		l    []int
		want int
	}{
		{"nil", nil, 0},
		{"no block", []int{}, 0},
		{"the first block", []int{0}, 0},
		{"the last Straight one", []int{11}, 0},
		{"all Straight ones", row(0, 12), 0},
		{"the first Single one", []int{12}, 1},
		{"the last Single one", []int{75}, 1},
		{"all Single ones", row(12, 76), 1},
		{"all Straight and Single ones", row(0, 76), 1},
		{"the first Double one", []int{76}, 2},
		{"the last Double one", []int{587}, 2},
		{"all of the first kid", row(76, 140), 2},
		{"all of a kid in the middle", row(268, 332), 2},
		{"all of the last kid", row(524, 588), 2},
		{"one of each kind", []int{0, 12, 76}, 3},
		{"one of each kind, the last first", []int{587, 75, 11}, 3},
		{"a Straight and a Double one", []int{3, 300}, 2},
		{"two kids, side by side", []int{139, 140}, 3},
		{"two kids, far off each other", []int{587, 76}, 3},
		{"the last Single and the first Double one", []int{75, 76}, 3},
		{"the first of each kid", firstOfKids, 9},
		{"the last of each kid", lastOfKids, 9},
		{"all Double ones", row(76, 588), 9},
		{"all Double ones and a Single one", append(row(76, 588), 12), 10},
		{"all blocks of a file", allBlocks(), 10},
	} {
		needs(t, x.what, x.l, x.want)
		turned := slices.Clone(x.l)
		slices.Reverse(turned)
		needs(t, x.what+", from behind", turned, x.want)
		needs(t, x.what+", twice", append(slices.Clone(x.l), turned...), x.want)
	}
}

func TestIndsOfEachBlockAlone(t *testing.T) {
	for i, w := range plainWays() {
		// A kind's number is how many blocks of pointers lead to it.
		needs(t, "alone", []int{i}, w.kind)
		needs(t, "twice", []int{i, i}, w.kind)
		needs(t, "many times", slices.Repeat([]int{i}, 100), w.kind)
	}
}

func TestIndsOfEachTwoBlocks(t *testing.T) {
	near := []int{0, 11, 12, 13, 75, 76, 77, 139, 140, 203, 204, 267, 268, 331, 332, 395, 396, 459, 460, 523, 524, 587}
	for _, i := range near {
		for _, j := range allBlocks() {
			l := []int{i, j}
			needs(t, "two", l, plainInds(l))
		}
	}
}

func TestIndsOfTheFirstBlocksOfAFile(t *testing.T) {
	for many := range blocks + 1 {
		l := row(0, many)
		needs(t, "a beginning", l, plainInds(l))
	}
}

func TestIndsLeavesOutWhatIsNoBlock(t *testing.T) {
	wrong := noBlocks()
	needs(t, "none but no blocks", wrong, 0)
	for _, i := range wrong {
		needs(t, "no block", []int{i}, 0)
		needs(t, "no block, ahead", []int{i, 12}, 1)
		needs(t, "no block, behind", []int{12, i}, 1)
		needs(t, "no block, between", []int{76, i, 587}, 3)
		needs(t, "no block, beside a Straight one", []int{0, i}, 0)
	}
	needs(t, "no blocks and all blocks", append(append(noBlocks(), allBlocks()...), wrong...), 10)
}

func TestIndsOfRandomLists(t *testing.T) {
	r := rand.New(rand.NewSource(101))
	for range 5000 {
		l := make([]int, r.Intn(12))
		for k := range l {
			// Some are no block, some are there twice.
			l[k] = r.Intn(700) - 50
			if k > 0 && r.Intn(4) == 0 {
				l[k] = l[k-1]
			}
		}
		needs(t, "random", l, plainInds(l))
	}
}

func TestIndsOfALongList(t *testing.T) {
	needs(t, "a long list", slices.Repeat(allBlocks(), 200), 10)
	needs(t, "a long list without blocks", slices.Repeat(noBlocks(), 5000), 0)
}

// P10.1: Blocks

func TestBlocksAtTheEdges(t *testing.T) {
	for _, x := range []struct{ size, want int }{
		{0, 0}, {1, 1}, {2, 1}, {255, 1}, {256, 1}, {257, 2}, {511, 2}, {512, 2}, {513, 3},
		{direct * 256, 12}, {direct*256 + 1, 13}, {(direct + fan) * 256, 76}, {(direct+fan)*256 + 1, 77},
		{size - 257, 587}, {size - 256, 587}, {size - 255, 588}, {size - 1, 588}, {size, 588},
	} {
		if got := span.Blocks(x.size); got != x.want {
			t.Errorf("Blocks(%d): %d, want %d", x.size, got, x.want)
		}
	}
}

// The blocks are laid out one by one, and each byte is asked for.
func TestBlocksOfEachSize(t *testing.T) {
	bytes := 0
	for block := range blocks {
		for range allBytes {
			bytes++
			if got := span.Blocks(bytes); got != block+1 {
				t.Errorf("Blocks(%d): %d, want %d", bytes, got, block+1)
			}
		}
	}
}

func TestBlocksBelowNought(t *testing.T) {
	for _, bytes := range []int{-1, -2, -255, -256, -257, -512, -size, -size - 1, -1 << 32, -1<<32 + 1, -1 << 40, math.MinInt32, math.MinInt / 2, math.MinInt + 1, math.MinInt} {
		if got := span.Blocks(bytes); got != 0 {
			t.Errorf("Blocks(%d): %d", bytes, got)
		}
	}
}

func TestBlocksAboveTheGreatestSize(t *testing.T) {
	for _, bytes := range []int{size + 1, size + 255, size + 256, size + 257, 2 * size, 1 << 32, 1<<32 + 1, 1 << 40, 1 << 62, math.MaxInt32, math.MaxInt - 256, math.MaxInt - 255, math.MaxInt - 254, math.MaxInt - 1, math.MaxInt} {
		if got := span.Blocks(bytes); got != 588 {
			t.Errorf("Blocks(%d): %d", bytes, got)
		}
	}
}

// P10.2: Pointers

// plainPointers is P10.2's rule: the first byte, and 256 times the second one.
func plainPointers(s string) []int {
	var l []int
	for at := 0; at < ptrBytes; at += 2 {
		l = append(l, int(s[at])+256*int(s[at+1]))
	}
	return l
}

func points(t *testing.T, what, s string, want []int) {
	t.Helper()
	if got := span.Pointers(s); !slices.Equal(got, want) {
		t.Errorf("%s: Pointers(%x): %v, want %v", what, s, got, want)
	}
}

// block is a text with bytes 0 up to a block.
func block(s string) string { return s + strings.Repeat("\x00", allBytes-len(s)) }

func noise(r *rand.Rand, many int) string {
	b := make([]byte, many)
	r.Read(b)
	return string(b)
}

func TestPointersOfABlockWrittenOut(t *testing.T) {
	s := block("\x02\x01" + "\xff\x00" + "\x00\xff" + "\x00\x00" + "\xff\xff" + "\x00\x80" + "\xff\x3f")
	points(t, "written out", s, append([]int{258, 255, 65280, 0, 65535, 32768, 16383}, make([]int, 57)...))
}

func TestPointersOfBytesThatAreAlike(t *testing.T) {
	for b := range 256 {
		s := strings.Repeat(string([]byte{byte(b)}), allBytes)
		points(t, "alike", s, slices.Repeat([]int{257 * b}, fan))
	}
	points(t, "bytes 0", strings.Repeat("\x00", allBytes), make([]int, fan))
	points(t, "bytes 255", strings.Repeat("\xff", allBytes), slices.Repeat([]int{65535}, fan))
}

func TestEachByteHasItsPlace(t *testing.T) {
	for at := range allBytes {
		for _, v := range []byte{1, 127, 128, 255} {
			b, want := make([]byte, allBytes), make([]int, fan)
			b[at] = v
			if at < ptrBytes {
				want[at/2] = int(v) << (8 * (at % 2))
			}
			points(t, "one byte", string(b), want)
		}
	}
}

func TestTheRestOfTheBlockPlaysNoPart(t *testing.T) {
	r := rand.New(rand.NewSource(102))
	for range 200 {
		s := noise(r, allBytes)
		want := plainPointers(s)
		points(t, "noise", s, want)
		points(t, "bytes 0 behind", block(s[:ptrBytes]), want)
		points(t, "bytes 255 behind", s[:ptrBytes]+strings.Repeat("\xff", allBytes-ptrBytes), want)
		points(t, "its own bytes behind", s[:ptrBytes]+s[:ptrBytes], want)
	}
	points(t, "something in the rest alone", strings.Repeat("\x00", ptrBytes)+strings.Repeat("x", ptrBytes), make([]int, fan))
	points(t, "something in the last byte alone", strings.Repeat("\x00", allBytes-1)+"x", make([]int, fan))
}

func TestPointersOfTextsThatAreNoBlock(t *testing.T) {
	long := noise(rand.New(rand.NewSource(103)), 2000)
	for many := range len(long) {
		if many != allBytes {
			points(t, "no block", long[:many], nil)
		}
	}
	points(t, "empty", "", nil)
	points(t, "the pointers alone", strings.Repeat("\x01", ptrBytes), nil)
	points(t, "a byte too short", strings.Repeat("\x00", allBytes-1), nil)
	points(t, "a byte too long", strings.Repeat("\x00", allBytes+1), nil)
	points(t, "two blocks", strings.Repeat("\x01", 2*allBytes), nil)
	// Bytes are counted, not runes.
	points(t, "256 runes", strings.Repeat("é", allBytes), nil)
	points(t, "128 runes", strings.Repeat("é", allBytes/2), slices.Repeat([]int{0xA9C3}, fan))
}

// P10.2: Bytes

// plainBytes is P10.2's rule; a number below 0 has the lowest bits of what
// wraps round to it.
func plainBytes(l []int) string {
	var b []byte
	for k := range fan {
		v := 0
		if k < len(l) {
			v = ((l[k] % 65536) + 65536) % 65536
		}
		b = append(b, byte(v%256), byte(v/256))
	}
	return string(append(b, make([]byte, allBytes-len(b))...))
}

func gives(t *testing.T, what string, l []int, want string) {
	t.Helper()
	before := slices.Clone(l)
	if got := span.Bytes(l); got != want {
		t.Errorf("%s: Bytes(%v): %x, want %x", what, l, got, want)
	}
	if !slices.Equal(l, before) {
		t.Errorf("%s: %v was handed in, and is %v", what, before, l)
	}
}

func TestBytesWrittenOut(t *testing.T) {
	gives(t, "written out", []int{258, 255, 65280, 0, 65535, 32768, 16383}, block("\x02\x01"+"\xff\x00"+"\x00\xff"+"\x00\x00"+"\xff\xff"+"\x00\x80"+"\xff\x3f"))
}

func TestBytesOfSoManyNumbers(t *testing.T) {
	gives(t, "nil", nil, strings.Repeat("\x00", allBytes))
	gives(t, "none", []int{}, strings.Repeat("\x00", allBytes))
	for many := range 200 {
		l := slices.Repeat([]int{0x0907}, many)
		gives(t, fmt.Sprint(many, " numbers"), l, block(strings.Repeat("\x07\x09", min(many, fan))))
	}
	gives(t, "one too few", slices.Repeat([]int{-1}, fan-1), block(strings.Repeat("\xff", ptrBytes-2)))
	gives(t, "just so many", slices.Repeat([]int{-1}, fan), block(strings.Repeat("\xff", ptrBytes)))
	gives(t, "one too many", slices.Repeat([]int{-1}, fan+1), block(strings.Repeat("\xff", ptrBytes)))
	gives(t, "as many as a block has bytes", slices.Repeat([]int{-1}, allBytes), block(strings.Repeat("\xff", ptrBytes)))
	gives(t, "very many", slices.Repeat([]int{-1}, 100000), block(strings.Repeat("\xff", ptrBytes)))
}

func TestEachNumberHasItsPlace(t *testing.T) {
	for k := range fan {
		l := make([]int, fan)
		l[k] = 0x1234
		gives(t, "one number", l, block(strings.Repeat("\x00", 2*k)+"\x34\x12"))
		gives(t, "one number, the last", l[:k+1], block(strings.Repeat("\x00", 2*k)+"\x34\x12"))
	}
	l := make([]int, fan+5)
	for k := fan; k < len(l); k++ {
		l[k] = 0x1234
	}
	gives(t, "none but behind the first Fan", l, strings.Repeat("\x00", allBytes))
}

func TestBytesOfNumbersOfOtherBits(t *testing.T) {
	for _, x := range []struct {
		v    int
		want string
	}{
		{-1, "\xff\xff"}, {-2, "\xfe\xff"}, {-255, "\x01\xff"}, {-256, "\x00\xff"}, {-257, "\xff\xfe"},
		{-32768, "\x00\x80"}, {-65535, "\x01\x00"}, {-65536, "\x00\x00"}, {-65537, "\xff\xff"},
		{65535, "\xff\xff"}, {65536, "\x00\x00"}, {65537, "\x01\x00"}, {0x123456, "\x56\x34"}, {0x7FFF0201, "\x01\x02"},
		{1 << 32, "\x00\x00"}, {1<<40 + 258, "\x02\x01"}, {math.MaxInt32, "\xff\xff"}, {math.MinInt32, "\x00\x00"},
		{math.MaxInt, "\xff\xff"}, {math.MaxInt - 1, "\xfe\xff"}, {math.MinInt, "\x00\x00"}, {math.MinInt + 1, "\x01\x00"},
	} {
		gives(t, "alone", []int{x.v}, block(x.want))
		gives(t, "between others", []int{7, x.v, 9}, block("\x07\x00"+x.want+"\x09\x00"))
		gives(t, "all of them", slices.Repeat([]int{x.v}, fan), block(strings.Repeat(x.want, fan)))
	}
}

func TestBytesOfRandomLists(t *testing.T) {
	r := rand.New(rand.NewSource(104))
	for range 3000 {
		l := make([]int, r.Intn(100))
		for k := range l {
			l[k] = int(r.Uint64()) >> r.Intn(64)
		}
		gives(t, "random", l, plainBytes(l))
	}
}

// P10.2: back

func TestPointersAndBack(t *testing.T) {
	r := rand.New(rand.NewSource(105))
	for range 2000 {
		s := noise(r, allBytes)
		if got, want := span.Bytes(span.Pointers(s)), block(s[:ptrBytes]); got != want {
			t.Errorf("back: %x, want %x", got, want)
		}
	}
	// Of what is no block there is no number.
	if got := span.Bytes(span.Pointers("")); got != strings.Repeat("\x00", allBytes) {
		t.Errorf("of none: %x", got)
	}
}

func TestEachNumberIsPutAndGot(t *testing.T) {
	for first := 0; first < 65536; first += fan {
		l := make([]int, fan)
		for k := range l {
			l[k] = first + k
		}
		points(t, "back", span.Bytes(l), l)
	}
}

func TestFewerAndMoreNumbersAreGotAsFan(t *testing.T) {
	r := rand.New(rand.NewSource(106))
	for many := range 150 {
		l := make([]int, many)
		for k := range l {
			l[k] = r.Intn(65536)
		}
		want := make([]int, fan)
		copy(want, l)
		points(t, "back", span.Bytes(l), want)
	}
}

// P10.3

func TestUnlikeBlocksHaveUnlikeWays(t *testing.T) {
	seen := map[way]int{}
	for i := -1000; i < 2000; i++ {
		w := wayOf(i)
		if !w.ok {
			continue
		}
		if other, there := seen[w]; there {
			t.Errorf("%d and %d: %+v", other, i, w)
		}
		seen[w] = i
	}
	if len(seen) != blocks {
		t.Errorf("%d ways", len(seen))
	}
}

// A way stays within what a node and a block of pointers have, so no two ways
// end at one pointer either.
func TestWaysEndAtPointersThatThereAre(t *testing.T) {
	for i := range blocks {
		w := wayOf(i)
		most := map[int]way{span.Straight: {at: direct - 1}, span.Single: {at: fan - 1}, span.Double: {kid: kids - 1, at: fan - 1}}
		m, there := most[w.kind]
		if !there || w.kid < 0 || w.kid > m.kid || w.at < 0 || w.at > m.at {
			t.Errorf("Way(%d): %+v", i, w)
		}
	}
}

// The rules for what is handed in, for what is answered, and for what an
// answer hangs on

func TestSpareRoomOfWhatIsHandedInIsNotChanged(t *testing.T) {
	whole := []int{76, 12, -1, 70000, 5, 6, 7}
	before := slices.Clone(whole)
	span.Inds(whole[:2])
	span.Bytes(whole[:2])
	if !slices.Equal(whole, before) {
		t.Errorf("%v", whole)
	}
}

func TestWhatIsAnsweredIsTheCallersOwn(t *testing.T) {
	s := block("\x02\x01")
	one, other := span.Pointers(s), span.Pointers(s)
	one = one[:cap(one)]
	for k := range one {
		one[k] = -7
	}
	points(t, "asked again", s, plainPointers(s))
	if !slices.Equal(other, plainPointers(s)) || slices.Contains(other[:cap(other)], -7) {
		t.Errorf("an answer given before: %v", other)
	}
}

func TestWhatIsHandedInIsNotKept(t *testing.T) {
	l := []int{1, 2, 3}
	s := span.Bytes(l)
	l[0] = 9
	if s != block("\x01\x00\x02\x00\x03\x00") {
		t.Errorf("%x", s)
	}
	gives(t, "asked again", l, block("\x09\x00\x02\x00\x03\x00"))
}

func TestAnswersHangOnTheArgumentsAlone(t *testing.T) {
	for range 3 {
		needs(t, "all", allBlocks(), 10)
		needs(t, "none", nil, 0)
		gives(t, "full", slices.Repeat([]int{-1}, fan), block(strings.Repeat("\xff", ptrBytes)))
		gives(t, "none", nil, block(""))
		if got := wayOf(587); got != (way{span.Double, 7, 63, true}) {
			t.Errorf("%+v", got)
		}
		if got := wayOf(588); got != (way{}) {
			t.Errorf("%+v", got)
		}
	}
}
