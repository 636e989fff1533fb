package slot_test

import (
	"encoding/binary"
	"hash/crc32"
	"math"
	"math/rand"
	"strings"
	"testing"

	"beguinage/api"
	"beguinage/slot"
)

const (
	tick     = 1 << 40
	allBytes = 256
	sumAt    = allBytes - 4
	// noughtAt is the first byte behind the last number.
	noughtAt = 62
)

// all is what P7.1 puts: a slot, and whose it is.
type all struct {
	house, gen int
	x          api.Slot
}

// place is a number of what is put: its first and last value, and where it
// stands.
type place struct {
	name        string
	of          func(a *all) *int
	first, last int
	at, bytes   int
}

func owners() []place {
	return []place{
		{"house", func(a *all) *int { return &a.house }, 1, 16, 4, 1},
		{"gen", func(a *all) *int { return &a.gen }, 1, 65535, 5, 2},
	}
}

func numbers() []place {
	return []place{
		{"Num", func(a *all) *int { return &a.x.Num }, 1, 1 << 40, 7, 6},
		{"Life", func(a *all) *int { return &a.x.Life }, 1, 1<<20 - 1, 13, 3},
		{"Clock", func(a *all) *int { return &a.x.Clock }, 0, tick, 16, 6},
		{"Seg", func(a *all) *int { return &a.x.Seg }, 0, 65535, 22, 2},
		{"At", func(a *all) *int { return &a.x.At }, 0, 64, 24, 2},
		{"Next", func(a *all) *int { return &a.x.Next }, 0, 65535, 26, 2},
		{"Seq", func(a *all) *int { return &a.x.Seq }, 1, 1 << 40, 28, 6},
		{"Map[0]", func(a *all) *int { return &a.x.Map[0] }, 0, 16383, 34, 4},
		{"Map[1]", func(a *all) *int { return &a.x.Map[1] }, 0, 16383, 38, 4},
		{"Map[2]", func(a *all) *int { return &a.x.Map[2] }, 0, 16383, 42, 4},
		{"Map[3]", func(a *all) *int { return &a.x.Map[3] }, 0, 16383, 46, 4},
		{"SinceBlocks", func(a *all) *int { return &a.x.SinceBlocks }, 0, tick + 1, 50, 6},
		{"SinceNodes", func(a *all) *int { return &a.x.SinceNodes }, 0, tick + 1, 56, 6},
	}
}

func places() []place { return append(owners(), numbers()...) }

// extremes are numbers beyond every bound, to both ends of what there is; the
// lowest bytes of some of them are a number that may be.
func extremes() []int {
	return []int{
		math.MinInt, math.MinInt + 1, math.MinInt / 2, math.MinInt32, -tick, -65536, -65535, -256, -255, -2, -1,
		math.MaxInt, math.MaxInt - 1, math.MaxInt / 2, tick + 2, 1<<48 + 1, 1 << 56, 1<<56 + 1, 1 << 62,
	}
}

func least() all { return all{1, 1, api.Slot{Num: 1, Life: 1, Seq: 1}} }

func greatest() all {
	return all{16, 65535, api.Slot{
		Num: 1 << 40, Life: 1<<20 - 1, Clock: tick, Seg: 65535, At: 64, Next: 65535, Seq: 1 << 40,
		Map: [4]int{16383, 16383, 16383, 16383}, SinceBlocks: tick + 1, SinceNodes: tick + 1,
	}}
}

// some has another number in each byte, as far as its bounds go.
func some() all {
	return all{7, 0x1234, api.Slot{
		Num: 0x8182838485, Life: 0x0B2C3D, Clock: 0x9192939495, Seg: 0xA1A2, At: 0x3F, Next: 0xB1B2, Seq: 0xC1C2C3C4C5,
		Map: [4]int{0x3D01, 0x2E02, 0x1F03, 0x0A04}, SinceBlocks: 0xD1D2D3D4D5, SinceNodes: 0xE1E2E3E4E5,
	}}
}

func bases() []all { return []all{least(), some(), greatest()} }

func random(r *rand.Rand) all {
	var a all
	for _, p := range places() {
		// Small numbers are as likely as great ones.
		*p.of(&a) = p.first + r.Intn(p.last-p.first+1)>>r.Intn(40)
	}
	return a
}

// plain is what P7.1 says of the bytes, without a look at the numbers.
func plain(a all) string {
	b := []byte("BGSL")
	number := func(v, n int) {
		var eight [8]byte
		binary.LittleEndian.PutUint64(eight[:], uint64(v))
		b = append(b, eight[:n]...)
	}
	number(a.house, 1)
	number(a.gen, 2)
	number(a.x.Num, 6)
	number(a.x.Life, 3)
	number(a.x.Clock, 6)
	number(a.x.Seg, 2)
	number(a.x.At, 2)
	number(a.x.Next, 2)
	number(a.x.Seq, 6)
	for _, sector := range a.x.Map {
		number(sector, 4)
	}
	number(a.x.SinceBlocks, 6)
	number(a.x.SinceNodes, 6)
	return summed(string(append(b, make([]byte, sumAt-len(b))...)))
}

// sumOf is a text's sum as bytes.
func sumOf(s string) string {
	return string(binary.LittleEndian.AppendUint32(nil, crc32.ChecksumIEEE([]byte(s))))
}

// summed is a text with the right sum in place of its last four bytes, or
// behind it, if they are not there yet.
func summed(s string) string {
	s = s[:min(len(s), sumAt)]
	return s + sumOf(s)
}

// with is a text with other bytes at a place.
func with(s string, at int, bytes string) string { return s[:at] + bytes + s[at+len(bytes):] }

// withNumber is a text with a number of n bytes at a place, and the right sum.
func withNumber(s string, at, n, v int) string {
	b := binary.LittleEndian.AppendUint64(nil, uint64(v))
	return summed(with(s, at, string(b[:n])))
}

func puts(t *testing.T, a all) string {
	t.Helper()
	s, ok := slot.Put(a.house, a.gen, a.x)
	if want := plain(a); !ok || s != want {
		t.Fatalf("Put(%d, %d, %+v): %x, %v, want %x", a.house, a.gen, a.x, s, ok, want)
	}
	return s
}

func putsNot(t *testing.T, a all) {
	t.Helper()
	if s, ok := slot.Put(a.house, a.gen, a.x); ok || s != "" {
		t.Errorf("Put(%d, %d, %+v): %x, %v", a.house, a.gen, a.x, s, ok)
	}
}

func gets(t *testing.T, s string, a all) {
	t.Helper()
	house, gen, x, ok := slot.Get(s)
	if got := (all{house, gen, x}); !ok || got != a {
		t.Errorf("Get(%x): %+v, %v, want %+v", s, got, ok, a)
	}
}

func getsNot(t *testing.T, what, s string) {
	t.Helper()
	house, gen, x, ok := slot.Get(s)
	if got := (all{house, gen, x}); ok || got != (all{}) {
		t.Errorf("Get, %s (%x): %+v, %v", what, s, got, ok)
	}
}

// taken is what may be; it is put and got.
func taken(t *testing.T, a all) {
	t.Helper()
	if !slot.Check(a.x) {
		t.Errorf("Check(%+v): false", a.x)
	}
	gets(t, puts(t, a), a)
}

// refused is a slot that may not be: nobody's is put.
func refused(t *testing.T, a all) {
	t.Helper()
	if slot.Check(a.x) {
		t.Errorf("Check(%+v): true", a.x)
	}
	putsNot(t, a)
}

func TestLimitsThatTheTestsWriteOut(t *testing.T) {
	if api.MaxHouses != 16 || api.MaxTick != tick || api.MaxSeg != 64 || api.MaxSectors != 16384 || api.Block != allBytes {
		t.Error("the limits are others than those that these tests write out")
	}
}

// P7.1: Check

func TestSlotsThatMayBe(t *testing.T) {
	for _, a := range bases() {
		taken(t, a)
	}
	r := rand.New(rand.NewSource(71))
	for range 2000 {
		taken(t, random(r))
	}
}

func TestTheZeroSlotMayNotBe(t *testing.T) { refused(t, all{1, 1, api.Slot{}}) }

func TestEachNumberAtItsEdges(t *testing.T) {
	for _, p := range numbers() {
		for _, a := range bases() {
			for _, v := range []int{p.first, p.first + 1, (p.first + p.last) / 2, p.last - 1, p.last} {
				*p.of(&a) = v
				taken(t, a)
			}
			for _, v := range []int{p.first - 1, p.last + 1} {
				*p.of(&a) = v
				refused(t, a)
			}
		}
	}
}

func TestEachNumberAtItsExtremes(t *testing.T) {
	for _, p := range numbers() {
		for _, a := range bases() {
			for _, v := range extremes() {
				*p.of(&a) = v
				refused(t, a)
			}
			// Cut to its bytes it would be a number that may be.
			*p.of(&a) = p.first + 1<<(8*p.bytes)
			refused(t, a)
		}
	}
}

// The last clock is MaxTick; what is told since then is one more.
func TestClockAndSinceEndApart(t *testing.T) {
	a := least()
	a.x.Clock, a.x.SinceBlocks, a.x.SinceNodes = tick, tick+1, tick+1
	taken(t, a)
	a.x.Clock = tick + 1
	refused(t, a)
	a.x.Clock, a.x.SinceBlocks = tick, tick+2
	refused(t, a)
	a.x.SinceBlocks, a.x.SinceNodes = tick+1, tick+2
	refused(t, a)
}

// Nothing holds one number against another.
func TestNumbersDoNotHangOnEachOther(t *testing.T) {
	for _, p := range numbers() {
		low, high := least(), greatest()
		*p.of(&low), *p.of(&high) = p.last, p.first
		taken(t, low)
		taken(t, high)
	}
	a := some()
	a.x.Next = a.x.Seg
	a.x.Map = [4]int{5, 5, 5, 5}
	taken(t, a)
}

func TestOneNumberThatMayNotBeIsEnough(t *testing.T) {
	for _, p := range numbers() {
		a := greatest()
		*p.of(&a)++
		refused(t, a)
		for _, q := range numbers() {
			b := a
			*q.of(&b) = -1
			refused(t, b)
		}
	}
}

// P7.1: Put

func TestPutASlotWrittenOut(t *testing.T) {
	want := "BGSL" + "\x07" + "\x34\x12" + "\x85\x84\x83\x82\x81\x00" + "\x3d\x2c\x0b" + "\x95\x94\x93\x92\x91\x00" +
		"\xa2\xa1" + "\x3f\x00" + "\xb2\xb1" + "\xc5\xc4\xc3\xc2\xc1\x00" +
		"\x01\x3d\x00\x00" + "\x02\x2e\x00\x00" + "\x03\x1f\x00\x00" + "\x04\x0a\x00\x00" +
		"\xd5\xd4\xd3\xd2\xd1\x00" + "\xe5\xe4\xe3\xe2\xe1\x00"
	want += strings.Repeat("\x00", 252-len(want))
	if s := puts(t, some()); s != want+sumOf(want) {
		t.Errorf("%x", s)
	}
}

func TestHousesAndGensAtTheirEdges(t *testing.T) {
	for _, p := range owners() {
		for _, a := range bases() {
			for _, v := range []int{p.first, p.first + 1, p.last - 1, p.last} {
				*p.of(&a) = v
				gets(t, puts(t, a), a)
			}
			wrong := append(extremes(), p.first-1, p.last+1, p.first+1<<(8*p.bytes), 1<<16, 1<<32+1, tick)
			for _, v := range wrong {
				*p.of(&a) = v
				putsNot(t, a)
			}
		}
	}
}

func TestEachHouseIsPut(t *testing.T) {
	for house := range 300 {
		a := some()
		if a.house = house; house >= 1 && house <= 16 {
			gets(t, puts(t, a), a)
		} else {
			putsNot(t, a)
		}
	}
}

func TestEachNumberStandsInItsBytes(t *testing.T) {
	for _, p := range places() {
		for _, v := range []int{p.first, p.last} {
			a := some()
			*p.of(&a) = v
			s := puts(t, a)
			var eight [8]byte
			copy(eight[:], s[p.at:p.at+p.bytes])
			if got := binary.LittleEndian.Uint64(eight[:]); got != uint64(v) {
				t.Errorf("%s: %d, want %d", p.name, got, v)
			}
			// No other byte ahead of the sum hangs on it.
			other := puts(t, some())
			if s[:p.at] != other[:p.at] || s[p.at+p.bytes:sumAt] != other[p.at+p.bytes:sumAt] {
				t.Errorf("%s: %x, want nothing but bytes %d to %d turned of %x", p.name, s, p.at, p.at+p.bytes, other)
			}
			if s[sumAt:] == other[sumAt:] {
				t.Errorf("%s: the sum stays", p.name)
			}
		}
	}
}

func TestTheNumbersFollowEachOther(t *testing.T) {
	at := len("BGSL")
	for _, p := range places() {
		if p.at != at {
			t.Errorf("%s is told to stand at %d, want %d", p.name, p.at, at)
		}
		at += p.bytes
	}
	if at != noughtAt {
		t.Errorf("the numbers end at %d", at)
	}
}

func TestPutTheEnd(t *testing.T) {
	for _, a := range bases() {
		s := puts(t, a)
		if len(s) != allBytes {
			t.Fatalf("%d bytes", len(s))
		}
		if s[noughtAt:sumAt] != strings.Repeat("\x00", 190) {
			t.Errorf("between the numbers and the sum: %x", s[noughtAt:sumAt])
		}
		sum := crc32.ChecksumIEEE([]byte(s[:252]))
		if s[251] != 0 || s[252] != byte(sum) || s[253] != byte(sum>>8) || s[254] != byte(sum>>16) || s[255] != byte(sum>>24) {
			t.Errorf("the sum: %x, want %x", s[252:], sum)
		}
	}
	// MaxTick and 1 has its highest bit in the last byte of SinceNodes.
	if s := puts(t, greatest()); s[noughtAt-6:noughtAt+1] != "\x01\x00\x00\x00\x00\x01\x00" {
		t.Errorf("the last number: %x", s[noughtAt-6:noughtAt+1])
	}
}

// P7.1: Get

func TestGetTheExample(t *testing.T) { getsNot(t, "256 bytes 0", strings.Repeat("\x00", 256)) }

func TestGetOfTextsOfOtherLengths(t *testing.T) {
	for _, a := range bases() {
		s := puts(t, a)
		for n := range allBytes {
			getsNot(t, "cut at its end", s[:n])
			getsNot(t, "cut at its beginning", s[allBytes-n:])
			getsNot(t, "a byte left out", s[:n]+s[n+1:])
			getsNot(t, "a byte too many", s[:n]+"\x00"+s[n:])
		}
		for _, more := range []string{"\x00", "a", "\xff", s, strings.Repeat("\x00", 256)} {
			getsNot(t, "more behind", s+more)
			getsNot(t, "more ahead", more+s)
		}
		// The sum is right, but there are fewer or more bytes than a block.
		for n := range sumAt {
			getsNot(t, "fewer bytes", summed(s[:n]))
		}
		for n := 1; n <= 600; n++ {
			long := s[:sumAt] + strings.Repeat("\x00", n)
			getsNot(t, "more bytes", long+sumOf(long))
		}
	}
}

func TestGetOfOtherTexts(t *testing.T) {
	r := rand.New(rand.NewSource(72))
	noise := make([]byte, allBytes)
	for range 1000 {
		r.Read(noise)
		getsNot(t, "noise", string(noise))
		getsNot(t, "noise with its sum", summed(string(noise)))
		getsNot(t, "noise behind the mark", summed("BGSL"+string(noise[4:])))
		getsNot(t, "noise as numbers", summed("BGSL"+string(noise[4:noughtAt])+strings.Repeat("\x00", sumAt-noughtAt)))
	}
	getsNot(t, "bytes 0 with their sum", summed(strings.Repeat("\x00", allBytes)))
	getsNot(t, "bytes 0 behind the mark", summed("BGSL"+strings.Repeat("\x00", allBytes)))
	getsNot(t, "bytes 255", strings.Repeat("\xff", allBytes))
	getsNot(t, "bytes 255 behind the mark", summed("BGSL"+strings.Repeat("\xff", allBytes)))
}

func TestGetOfABitTurned(t *testing.T) {
	for _, a := range bases() {
		b := []byte(puts(t, a))
		for bit := range 8 * len(b) {
			b[bit/8] ^= 1 << (bit % 8)
			getsNot(t, "a bit turned", string(b))
			b[bit/8] ^= 1 << (bit % 8)
		}
	}
}

func TestGetOfAnotherMark(t *testing.T) {
	s := puts(t, some())
	for _, mark := range []string{"BGTB", "BGCH", "BGND", "bgsl", "LSGB", "\x00\x00\x00\x00", "    "} {
		getsNot(t, mark, summed(with(s, 0, mark)))
	}
	for at := range 4 {
		for b := range 256 {
			if byte(b) != s[at] {
				getsNot(t, "another mark", summed(with(s, at, string([]byte{byte(b)}))))
			}
		}
	}
}

func TestGetOfOtherSums(t *testing.T) {
	s := puts(t, some())
	sum := crc32.ChecksumIEEE([]byte(s[:sumAt]))
	for _, other := range []uint32{
		0, 1, ^sum, sum + 1, sum - 1, math.MaxUint32,
		crc32.ChecksumIEEE([]byte(s)), crc32.ChecksumIEEE([]byte(s[4:sumAt])), crc32.ChecksumIEEE([]byte(s[:noughtAt])),
	} {
		getsNot(t, "another sum", s[:sumAt]+string(binary.LittleEndian.AppendUint32(nil, other)))
	}
	getsNot(t, "the sum turned round", s[:sumAt]+string(binary.BigEndian.AppendUint32(nil, sum)))
}

// Each number at its edges, with the right sum.
func TestGetOfEachNumber(t *testing.T) {
	for _, p := range places() {
		for _, a := range bases() {
			s := puts(t, a)
			for _, v := range []int{p.first, p.first + 1, p.last - 1, p.last} {
				*p.of(&a) = v
				gets(t, withNumber(s, p.at, p.bytes, v), a)
			}
			for _, v := range []int{0, p.last + 1, p.last + 2, 2 * p.last, 1 << (8*p.bytes - 1), 1<<(8*p.bytes) - 1} {
				if (v < p.first || v > p.last) && v < 1<<(8*p.bytes) {
					getsNot(t, p.name, withNumber(s, p.at, p.bytes, v))
				}
			}
		}
	}
}

func TestGetOfBytesBehindTheNumbers(t *testing.T) {
	for _, a := range bases() {
		s := puts(t, a)
		for at := noughtAt; at < sumAt; at++ {
			for _, b := range []string{"\x01", "\x80", "\xff", " "} {
				getsNot(t, "no byte 0", summed(with(s, at, b)))
			}
		}
	}
}

// A text with the right sum is refused, or put again just so.
func TestWhatIsGotIsPutAgain(t *testing.T) {
	r := rand.New(rand.NewSource(73))
	got, texts := 0, []string{puts(t, least()), puts(t, some()), puts(t, greatest()), puts(t, random(r))}
	for range 20000 {
		b := []byte(texts[r.Intn(len(texts))])
		for range 1 + r.Intn(2) {
			b[r.Intn(noughtAt+4)] = byte(r.Intn(256) >> r.Intn(8))
		}
		s := summed(string(b))
		house, gen, x, ok := slot.Get(s)
		if !ok {
			getsNot(t, "refused", s)
			continue
		}
		got++
		if again := puts(t, all{house, gen, x}); again != s {
			t.Errorf("got and put: %x, want %x", again, s)
		}
	}
	if got == 0 {
		t.Error("all are refused")
	}
}

// P7.2

func TestWhatIsPutIsGot(t *testing.T) {
	r := rand.New(rand.NewSource(74))
	for range 5000 {
		a := random(r)
		gets(t, puts(t, a), a)
	}
}

func TestEveryTwoNumbersArePutAndGotAtTheirEdges(t *testing.T) {
	for _, p := range places() {
		for _, q := range places() {
			for _, a := range bases() {
				*p.of(&a), *q.of(&a) = p.first, q.last
				gets(t, puts(t, a), a)
			}
		}
	}
}

func TestOtherSlotsAreOtherBytes(t *testing.T) {
	r := rand.New(rand.NewSource(75))
	seen := map[string]all{}
	for range 5000 {
		a := random(r)
		s := puts(t, a)
		if b, there := seen[s]; there && b != a {
			t.Errorf("%+v and %+v: %x", a, b, s)
		}
		seen[s] = a
	}
}

// The rules for what is handed in, and for what an answer hangs on

func TestWhatIsHandedInIsNotChanged(t *testing.T) {
	wrong := some()
	wrong.x.Map[2] = -1
	for _, before := range append(bases(), wrong, all{}) {
		a := before
		slot.Check(a.x)
		slot.Put(a.house, a.gen, a.x)
		slot.Put(-1, a.gen, a.x)
		if a != before {
			t.Errorf("%+v, before: %+v", a, before)
		}
	}
}

func TestWhatIsAnsweredIsTheCallersOwn(t *testing.T) {
	s := puts(t, some())
	_, _, x, _ := slot.Get(s)
	x.Map = [4]int{}
	x.Num++
	gets(t, s, some())
}

func TestAnswersHangOnTheArgumentsAlone(t *testing.T) {
	s := puts(t, some())
	for range 3 {
		putsNot(t, all{})
		puts(t, greatest())
		getsNot(t, "empty", "")
		gets(t, puts(t, greatest()), greatest())
		gets(t, s, some())
		if puts(t, some()) != s {
			t.Error("it is put otherwise")
		}
	}
}
