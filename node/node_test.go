package node_test

import (
	"encoding/binary"
	"fmt"
	"hash/crc32"
	"math"
	"math/rand"
	"strings"
	"testing"

	"beguinage/api"
	"beguinage/node"
)

const (
	tick     = 1 << 40
	size     = 150528
	allBytes = 256
	sumAt    = allBytes - 4
	ptrs     = 14
	// noughtAt is the first byte behind the last number.
	noughtAt = 45
)

// place is a number of a node: its first and last value, and where it stands.
type place struct {
	name        string
	of          func(n *api.Node) *int
	first, last int
	at, bytes   int
}

func places() []place {
	l := []place{
		{"Num", func(n *api.Node) *int { return &n.Num }, 1, 255, 4, 1},
		{"Kind", func(n *api.Node) *int { return &n.Kind }, 1, 2, 5, 1},
		{"Links", func(n *api.Node) *int { return &n.Links }, 0, 100, 6, 1},
		{"Size", func(n *api.Node) *int { return &n.Size }, 0, size, 7, 4},
		{"Time", func(n *api.Node) *int { return &n.Time }, 0, tick, 11, 6},
	}
	for i := range ptrs {
		l = append(l, place{fmt.Sprintf("Ptr[%d]", i), func(n *api.Node) *int { return &n.Ptr[i] }, 0, 16383, 17 + 2*i, 2})
	}
	return l
}

// mayBe is P9.1's rule.
func mayBe(n api.Node) bool {
	for _, p := range places() {
		if v := *p.of(&n); v < p.first || v > p.last {
			return false
		}
	}
	return n.Kind == 1 || n.Size%256 == 0
}

// extremes are numbers beyond every bound, to both ends of what there is; the
// lowest bytes of some of them are a number that may be, and some of them are
// multiples of a block.
func extremes() []int {
	return []int{
		math.MinInt, math.MinInt + 1, math.MinInt / 2, math.MinInt32, -tick, -65536, -65535, -256, -255, -2, -1,
		math.MaxInt, math.MaxInt - 1, math.MaxInt - 255, math.MaxInt / 2, tick + 1, tick + 256, 1<<48 + 1, 1 << 56, 1<<56 + 1, 1 << 62,
	}
}

func leastFile() api.Node { return api.Node{Num: 1, Kind: api.File} }

func leastDir() api.Node { return api.Node{Num: 1, Kind: api.Dir} }

func greatestDir() api.Node {
	n := api.Node{Num: 255, Kind: api.Dir, Links: 100, Size: size, Time: tick}
	for i := range n.Ptr {
		n.Ptr[i] = 16383
	}
	return n
}

func greatestFile() api.Node {
	n := greatestDir()
	n.Kind = api.File
	return n
}

// someFile has another number in each byte, as far as its bounds go.
func someFile() api.Node {
	return api.Node{
		Num: 0xA7, Kind: api.File, Links: 0x53, Size: 0x0213C5, Time: 0x9192939495,
		Ptr: [ptrs]int{
			0x3D81, 0x3C82, 0x3B83, 0x3A84, 0x3985, 0x3886, 0x3787, 0x3688, 0x3589, 0x348A, 0x338B, 0x328C, 0x318D, 0x308E,
		},
	}
}

func someDir() api.Node {
	n := someFile()
	n.Kind, n.Size = api.Dir, 0x021300
	return n
}

func bases() []api.Node {
	return []api.Node{leastFile(), leastDir(), someFile(), someDir(), greatestFile(), greatestDir()}
}

func random(r *rand.Rand) api.Node {
	var n api.Node
	for _, p := range places() {
		// Small numbers are as likely as great ones.
		*p.of(&n) = p.first + r.Intn(p.last-p.first+1)>>r.Intn(40)
	}
	if n.Kind = 1 + r.Intn(2); n.Kind == api.Dir {
		n.Size = 256 * r.Intn(589)
	}
	return n
}

// plain is what P9.1 says of the bytes, without a look at the numbers.
func plain(n api.Node) string {
	b := []byte("BGND")
	number := func(v, many int) { b = append(b, bytesOf(v, many)...) }
	number(n.Num, 1)
	number(n.Kind, 1)
	number(n.Links, 1)
	number(n.Size, 4)
	number(n.Time, 6)
	for _, sector := range n.Ptr {
		number(sector, 2)
	}
	return summed(string(append(b, make([]byte, sumAt-len(b))...)))
}

func bytesOf(v, many int) string {
	return string(binary.LittleEndian.AppendUint64(nil, uint64(v))[:many])
}

// sumOf is a text's sum as bytes.
func sumOf(s string) string {
	return string(binary.LittleEndian.AppendUint32(nil, crc32.ChecksumIEEE([]byte(s))))
}

// summed is a text with the right sum in place of its last four bytes, or
// behind it, if they are not there yet.
func summed(s string) string {
	s = s[:min(len(s), sumAt)]
	return s + sumOf(s)
}

// with is a text with other bytes at a place.
func with(s string, at int, bytes string) string { return s[:at] + bytes + s[at+len(bytes):] }

// withNumber is a text with a number of so many bytes at a place, and the
// right sum.
func withNumber(s string, at, many, v int) string { return summed(with(s, at, bytesOf(v, many))) }

func puts(t *testing.T, n api.Node) string {
	t.Helper()
	s, ok := node.Put(n)
	if want := plain(n); !ok || s != want {
		t.Fatalf("Put(%+v): %x, %v, want %x", n, s, ok, want)
	}
	return s
}

func gets(t *testing.T, s string, n api.Node) {
	t.Helper()
	if got, ok := node.Get(s); !ok || got != n {
		t.Errorf("Get(%x): %+v, %v, want %+v", s, got, ok, n)
	}
}

func getsNot(t *testing.T, what, s string) {
	t.Helper()
	if got, ok := node.Get(s); ok || got != (api.Node{}) {
		t.Errorf("Get, %s (%x): %+v, %v", what, s, got, ok)
	}
}

// taken is a node that may be; it is put and got.
func taken(t *testing.T, n api.Node) {
	t.Helper()
	if !node.Check(n) {
		t.Errorf("Check(%+v): false", n)
	}
	gets(t, puts(t, n), n)
}

// refused is a node that may not be.
func refused(t *testing.T, n api.Node) {
	t.Helper()
	if node.Check(n) {
		t.Errorf("Check(%+v): true", n)
	}
	if s, ok := node.Put(n); ok || s != "" {
		t.Errorf("Put(%+v): %x, %v", n, s, ok)
	}
}

// ruled is a node that is taken or refused by P9.1's rule.
func ruled(t *testing.T, n api.Node) {
	t.Helper()
	if mayBe(n) {
		taken(t, n)
	} else {
		refused(t, n)
	}
}

func TestLimitsThatTheTestsWriteOut(t *testing.T) {
	if api.MaxNodes != 255 || api.MaxLinks != 100 || api.MaxSize != size || api.MaxTick != tick || api.MaxSectors != 16384 || api.Block != allBytes {
		t.Error("the limits are others than those that these tests write out")
	}
	if api.File != 1 || api.Dir != 2 || len(api.Node{}.Ptr) != ptrs {
		t.Error("the kinds or the pointers are others than those that these tests write out")
	}
}

// P9.1: Check

func TestNodesThatMayBe(t *testing.T) {
	for _, n := range bases() {
		taken(t, n)
	}
	r := rand.New(rand.NewSource(91))
	for range 2000 {
		taken(t, random(r))
	}
}

func TestTheZeroNodeMayNotBe(t *testing.T) { refused(t, api.Node{}) }

func TestEachNumberAtItsEdges(t *testing.T) {
	for _, p := range places() {
		for _, n := range bases() {
			for _, v := range []int{p.first, p.last} {
				*p.of(&n) = v
				if n.Kind == api.Dir {
					n.Size -= n.Size % 256
				}
				taken(t, n)
			}
			for _, v := range []int{p.first + 1, (p.first + p.last) / 2, p.last - 1} {
				*p.of(&n) = v
				ruled(t, n)
			}
			for _, v := range []int{p.first - 1, p.last + 1} {
				*p.of(&n) = v
				refused(t, n)
			}
		}
	}
}

func TestEachNumberAtItsExtremes(t *testing.T) {
	for _, p := range places() {
		for _, n := range bases() {
			for _, v := range extremes() {
				*p.of(&n) = v
				refused(t, n)
			}
			// Cut to its bytes it would be a number that may be.
			for _, v := range []int{p.first, p.last} {
				*p.of(&n) = v + 1<<(8*p.bytes)
				refused(t, n)
				*p.of(&n) = v - 1<<(8*p.bytes)
				refused(t, n)
			}
		}
	}
}

func TestEachNumOfEachKind(t *testing.T) {
	for num := -300; num < 600; num++ {
		for kind := -3; kind < 7; kind++ {
			n := someDir()
			n.Num, n.Kind = num, kind
			if want := num >= 1 && num <= 255 && (kind == 1 || kind == 2); node.Check(n) != want {
				t.Errorf("Check(%+v): %v", n, !want)
			}
		}
	}
}

func TestEachNumberOfLinks(t *testing.T) {
	for links := -300; links < 600; links++ {
		for _, n := range bases() {
			n.Links = links
			if want := links >= 0 && links <= 100; node.Check(n) != want {
				t.Errorf("Check(%+v): %v", n, !want)
			}
		}
	}
}

func TestEachSizeOfEachKind(t *testing.T) {
	for bytes := -1000; bytes <= size+1000; bytes++ {
		file, dir := someFile(), someDir()
		file.Size, dir.Size = bytes, bytes
		may := bytes >= 0 && bytes <= size
		if node.Check(file) != may {
			t.Errorf("Check(%+v): %v", file, !may)
		}
		if whole := may && bytes%256 == 0; node.Check(dir) != whole {
			t.Errorf("Check(%+v): %v", dir, !whole)
		}
	}
}

// A directory has whole blocks; a file ends anywhere.
func TestSizesAboutABlock(t *testing.T) {
	for _, whole := range []int{0, 256, 512, 65536, 131072, size - 256, size} {
		for _, by := range []int{-255, -128, -1, 0, 1, 128, 255} {
			file, dir := leastFile(), leastDir()
			file.Size, dir.Size = whole+by, whole+by
			ruled(t, file)
			ruled(t, dir)
			if by != 0 {
				refused(t, dir)
			}
		}
	}
}

func TestAFileAloneMayEndInsideOfABlock(t *testing.T) {
	n := someFile()
	for _, bytes := range []int{1, 255, 257, 70000, size - 1} {
		n.Size = bytes
		n.Kind = api.File
		taken(t, n)
		n.Kind = api.Dir
		refused(t, n)
	}
}

// Nothing holds a number against another, but the Size against the Kind.
func TestNumbersDoNotHangOnEachOther(t *testing.T) {
	for _, p := range places() {
		for _, n := range []api.Node{leastFile(), leastDir(), greatestFile(), greatestDir()} {
			for _, v := range []int{p.first, p.last} {
				*p.of(&n) = v
				taken(t, n)
			}
		}
	}
	n := someFile()
	for i := range n.Ptr {
		n.Ptr[i] = 5
	}
	taken(t, n)
	// Neither the Size nor the Links say which pointers there are.
	n.Size, n.Links = 0, 0
	taken(t, n)
	n.Size, n.Ptr = size, [ptrs]int{}
	taken(t, n)
	// The root is a directory, but that is no node's own matter.
	n.Num = 1
	taken(t, n)
}

func TestOneNumberThatMayNotBeIsEnough(t *testing.T) {
	for _, p := range places() {
		for _, n := range []api.Node{greatestFile(), greatestDir()} {
			*p.of(&n) = p.last + 1
			refused(t, n)
			for _, q := range places() {
				other := n
				*q.of(&other) = -1
				refused(t, other)
			}
		}
	}
}

// P9.1: Put

func TestPutANodeWrittenOut(t *testing.T) {
	want := "BGND" + "\xa7" + "\x01" + "\x53" + "\xc5\x13\x02\x00" + "\x95\x94\x93\x92\x91\x00" +
		"\x81\x3d" + "\x82\x3c" + "\x83\x3b" + "\x84\x3a" + "\x85\x39" + "\x86\x38" + "\x87\x37" +
		"\x88\x36" + "\x89\x35" + "\x8a\x34" + "\x8b\x33" + "\x8c\x32" + "\x8d\x31" + "\x8e\x30"
	want += strings.Repeat("\x00", 252-len(want))
	if s := puts(t, someFile()); s != want+sumOf(want) {
		t.Errorf("%x", s)
	}
	want = summed(with(with(want, 5, "\x02"), 7, "\x00"))
	if s := puts(t, someDir()); s != want {
		t.Errorf("%x", s)
	}
}

func TestEachNumberStandsInItsBytes(t *testing.T) {
	for _, p := range places() {
		for _, v := range []int{p.first, p.last} {
			n := someDir()
			if *p.of(&n) == v {
				continue
			}
			*p.of(&n) = v
			s, other := puts(t, n), puts(t, someDir())
			var eight [8]byte
			copy(eight[:], s[p.at:p.at+p.bytes])
			if got := binary.LittleEndian.Uint64(eight[:]); got != uint64(v) {
				t.Errorf("%s: %d, want %d", p.name, got, v)
			}
			// No other byte ahead of the sum hangs on it.
			if s[:p.at] != other[:p.at] || s[p.at+p.bytes:sumAt] != other[p.at+p.bytes:sumAt] {
				t.Errorf("%s: %x, want nothing but bytes %d to %d turned of %x", p.name, s, p.at, p.at+p.bytes, other)
			}
			if s[sumAt:] == other[sumAt:] {
				t.Errorf("%s: the sum stays", p.name)
			}
		}
	}
}

func TestTheNumbersFollowEachOther(t *testing.T) {
	at := len("BGND")
	for _, p := range places() {
		if p.at != at {
			t.Errorf("%s is told to stand at %d, want %d", p.name, p.at, at)
		}
		at += p.bytes
	}
	if at != noughtAt {
		t.Errorf("the numbers end at %d", at)
	}
}

func TestPutTheEnd(t *testing.T) {
	for _, n := range bases() {
		s := puts(t, n)
		if len(s) != allBytes {
			t.Fatalf("%d bytes", len(s))
		}
		if s[noughtAt:sumAt] != strings.Repeat("\x00", 207) {
			t.Errorf("between the numbers and the sum: %x", s[noughtAt:sumAt])
		}
		sum := crc32.ChecksumIEEE([]byte(s[:252]))
		if s[251] != 0 || s[252] != byte(sum) || s[253] != byte(sum>>8) || s[254] != byte(sum>>16) || s[255] != byte(sum>>24) {
			t.Errorf("the sum: %x, want %x", s[252:], sum)
		}
	}
	// The last pointer has its highest bits in the last byte ahead of bytes 0.
	if s := puts(t, greatestFile()); s[noughtAt-2:noughtAt+1] != "\xff\x3f\x00" {
		t.Errorf("the last number: %x", s[noughtAt-2:noughtAt+1])
	}
	// MaxTick has its one bit in the last byte of Time.
	if s := puts(t, greatestFile()); s[11:17] != "\x00\x00\x00\x00\x00\x01" {
		t.Errorf("the time: %x", s[11:17])
	}
}

// P9.1: Get

func TestGetTheExample(t *testing.T) { getsNot(t, "256 bytes 0", strings.Repeat("\x00", 256)) }

func TestGetOfTextsOfOtherLengths(t *testing.T) {
	getsNot(t, "empty", "")
	for _, n := range bases() {
		s := puts(t, n)
		for at := range allBytes {
			getsNot(t, "cut at its end", s[:at])
			getsNot(t, "cut at its beginning", s[allBytes-at:])
			getsNot(t, "a byte left out", s[:at]+s[at+1:])
			getsNot(t, "a byte too many", s[:at]+"\x00"+s[at:])
		}
		for _, more := range []string{"\x00", "a", "\xff", s, strings.Repeat("\x00", 256)} {
			getsNot(t, "more behind", s+more)
			getsNot(t, "more ahead", more+s)
		}
		// The sum is right, but there are fewer or more bytes than a block.
		for at := range sumAt {
			getsNot(t, "fewer bytes", summed(s[:at]))
		}
		for more := 1; more <= 600; more++ {
			long := s[:sumAt] + strings.Repeat("\x00", more)
			getsNot(t, "more bytes", long+sumOf(long))
		}
	}
}

func TestGetOfOtherTexts(t *testing.T) {
	r := rand.New(rand.NewSource(92))
	noise := make([]byte, allBytes)
	for range 1000 {
		r.Read(noise)
		getsNot(t, "noise", string(noise))
		getsNot(t, "noise with its sum", summed(string(noise)))
		getsNot(t, "noise behind the mark", summed("BGND"+string(noise[4:])))
		getsNot(t, "noise as numbers", summed("BGND"+string(noise[4:noughtAt])+strings.Repeat("\x00", sumAt-noughtAt)))
	}
	getsNot(t, "bytes 0 with their sum", summed(strings.Repeat("\x00", allBytes)))
	getsNot(t, "bytes 0 behind the mark", summed("BGND"+strings.Repeat("\x00", allBytes)))
	getsNot(t, "bytes 255", strings.Repeat("\xff", allBytes))
	getsNot(t, "bytes 255 behind the mark", summed("BGND"+strings.Repeat("\xff", allBytes)))
}

func TestGetOfABitTurned(t *testing.T) {
	for _, n := range bases() {
		b := []byte(puts(t, n))
		for bit := range 8 * len(b) {
			b[bit/8] ^= 1 << (bit % 8)
			getsNot(t, "a bit turned", string(b))
			b[bit/8] ^= 1 << (bit % 8)
		}
	}
}

func TestGetOfAnotherMark(t *testing.T) {
	s := puts(t, someFile())
	for _, mark := range []string{"BGTB", "BGSL", "BGCH", "bgnd", "DNGB", "\x00\x00\x00\x00", "    "} {
		getsNot(t, mark, summed(with(s, 0, mark)))
	}
	for at := range 4 {
		for b := range 256 {
			if byte(b) != s[at] {
				getsNot(t, "another mark", summed(with(s, at, string([]byte{byte(b)}))))
			}
		}
	}
}

func TestGetOfOtherSums(t *testing.T) {
	s := puts(t, someFile())
	sum := crc32.ChecksumIEEE([]byte(s[:sumAt]))
	for _, other := range []uint32{
		0, 1, ^sum, sum + 1, sum - 1, math.MaxUint32,
		crc32.ChecksumIEEE([]byte(s)), crc32.ChecksumIEEE([]byte(s[4:sumAt])), crc32.ChecksumIEEE([]byte(s[:noughtAt])),
	} {
		getsNot(t, "another sum", s[:sumAt]+string(binary.LittleEndian.AppendUint32(nil, other)))
	}
	getsNot(t, "the sum turned round", s[:sumAt]+string(binary.BigEndian.AppendUint32(nil, sum)))
}

// Each number at its edges, with the right sum.
func TestGetOfEachNumber(t *testing.T) {
	for _, p := range places() {
		for _, n := range bases() {
			s := puts(t, n)
			for _, v := range []int{
				0, p.first, p.first + 1, p.last - 1, p.last, p.last + 1, p.last + 2, 2 * p.last, 256, 257,
				1 << (8*p.bytes - 1), 1<<(8*p.bytes) - 1, 1<<(8*p.bytes) - 256,
			} {
				if v >= 1<<(8*p.bytes) {
					continue
				}
				if *p.of(&n) = v; mayBe(n) {
					gets(t, withNumber(s, p.at, p.bytes, v), n)
				} else {
					getsNot(t, p.name, withNumber(s, p.at, p.bytes, v))
				}
			}
		}
	}
}

func TestGetOfEachByteOfTheOneByteNumbers(t *testing.T) {
	for _, p := range places()[:3] {
		for _, n := range bases() {
			s := puts(t, n)
			for b := range 256 {
				if *p.of(&n) = b; mayBe(n) {
					gets(t, withNumber(s, p.at, 1, b), n)
				} else {
					getsNot(t, p.name, withNumber(s, p.at, 1, b))
				}
			}
		}
	}
}

func TestGetOfEachSectorOfEachPointer(t *testing.T) {
	for _, p := range places()[5:] {
		s := puts(t, someFile())
		for sector := 0; sector < 65536; sector += 31 {
			n := someFile()
			if *p.of(&n) = sector; sector < 16384 {
				gets(t, withNumber(s, p.at, 2, sector), n)
			} else {
				getsNot(t, p.name, withNumber(s, p.at, 2, sector))
			}
		}
	}
}

func TestGetOfBytesBehindTheNumbers(t *testing.T) {
	for _, n := range bases() {
		s := puts(t, n)
		for at := noughtAt; at < sumAt; at++ {
			for _, b := range []string{"\x01", "\x80", "\xff", " "} {
				getsNot(t, "no byte 0", summed(with(s, at, b)))
			}
		}
	}
}

// A text with the right sum is refused, or put again just so.
func TestWhatIsGotIsPutAgain(t *testing.T) {
	r := rand.New(rand.NewSource(93))
	got, texts := 0, []string{puts(t, leastFile()), puts(t, leastDir()), puts(t, someFile()), puts(t, greatestDir()), puts(t, random(r))}
	for range 20000 {
		b := []byte(texts[r.Intn(len(texts))])
		for range 1 + r.Intn(2) {
			b[r.Intn(noughtAt+4)] = byte(r.Intn(256) >> r.Intn(8))
		}
		s := summed(string(b))
		n, ok := node.Get(s)
		if !ok {
			getsNot(t, "refused", s)
			continue
		}
		got++
		if again := puts(t, n); again != s {
			t.Errorf("got and put: %x, want %x", again, s)
		}
	}
	if got == 0 {
		t.Error("all are refused")
	}
}

// P9.2

func TestWhatIsPutIsGot(t *testing.T) {
	r := rand.New(rand.NewSource(94))
	for range 5000 {
		n := random(r)
		gets(t, puts(t, n), n)
	}
}

func TestEveryTwoNumbersArePutAndGotAtTheirEdges(t *testing.T) {
	for _, p := range places() {
		for _, q := range places() {
			for _, n := range []api.Node{leastFile(), leastDir(), someDir(), greatestFile(), greatestDir()} {
				*p.of(&n), *q.of(&n) = p.first, q.last
				gets(t, puts(t, n), n)
			}
		}
	}
}

func TestOtherNodesAreOtherBytes(t *testing.T) {
	r := rand.New(rand.NewSource(95))
	seen := map[string]api.Node{}
	for range 5000 {
		n := random(r)
		s := puts(t, n)
		if other, there := seen[s]; there && other != n {
			t.Errorf("%+v and %+v: %x", n, other, s)
		}
		seen[s] = n
	}
}

// The rules for what is handed in, and for what an answer hangs on

func TestWhatIsHandedInIsNotChanged(t *testing.T) {
	wrong := someFile()
	wrong.Ptr[13] = -1
	for _, before := range append(bases(), wrong, api.Node{}) {
		n := before
		node.Check(n)
		node.Put(n)
		if n != before {
			t.Errorf("%+v, before: %+v", n, before)
		}
	}
}

func TestWhatIsAnsweredIsTheCallersOwn(t *testing.T) {
	s := puts(t, someFile())
	n, _ := node.Get(s)
	n.Ptr = [ptrs]int{}
	n.Num++
	gets(t, s, someFile())
}

func TestAnswersHangOnTheArgumentsAlone(t *testing.T) {
	s := puts(t, someFile())
	for range 3 {
		refused(t, api.Node{})
		taken(t, greatestDir())
		getsNot(t, "empty", "")
		gets(t, s, someFile())
		if puts(t, someFile()) != s {
			t.Error("it is put otherwise")
		}
	}
}
