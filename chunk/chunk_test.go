package chunk_test

import (
	"encoding/binary"
	"hash/crc32"
	"math"
	"math/rand"
	"slices"
	"strings"
	"testing"

	"beguinage/api"
	"beguinage/chunk"
	"beguinage/head"
)

const (
	tick     = 1 << 40
	bytes    = 256
	sumAt    = bytes - 4
	mostPay  = 24
	manyAt   = 36
	sumBytes = 4
)

func least() api.Head { return api.Head{House: 1, Gen: 1, Life: 1, Seq: 1} }

// some is a head with another number in each field, and n of List.
func some(n int) api.Head {
	h := api.Head{House: 2, Gen: 3, Life: 4, Seq: 5, Next: 6, Clock: 7, SinceBlocks: 8, SinceNodes: 9}
	h.List = entries(n)
	return h
}

func greatest() api.Head {
	h := api.Head{
		House: 16, Gen: 65535, Life: 1<<20 - 1, Seq: 1 << 40, Next: 65535,
		Clock: tick, SinceBlocks: tick + 1, SinceNodes: tick + 1,
	}
	h.List = entries(mostPay)
	return h
}

// entries are n of them, of each kind in turn.
func entries(n int) []api.Entry {
	kinds := []api.Entry{
		{Kind: api.Data, Node: 255, Part: 587}, {Kind: api.Ind, Node: 3, Part: 9}, {Kind: api.Ino, Node: 5},
		{Kind: api.Map, Node: 1, Part: 3}, {Kind: api.Gone, Node: 7},
	}
	var l []api.Entry
	for i := range n {
		l = append(l, kinds[i%len(kinds)])
	}
	return l
}

// wrongHeads are heads with n of List that head's Check does not take.
func wrongHeads(n int) []api.Head {
	var l []api.Head
	turn := func(change func(h *api.Head)) {
		h := some(n)
		change(&h)
		l = append(l, h)
	}
	for _, v := range []int{0, -1, math.MinInt, math.MaxInt} {
		turn(func(h *api.Head) { h.House = v })
		turn(func(h *api.Head) { h.Gen = v })
		turn(func(h *api.Head) { h.Life = v })
		turn(func(h *api.Head) { h.Seq = v })
		for at := range n {
			turn(func(h *api.Head) { h.List[at].Kind = v })
			turn(func(h *api.Head) { h.List[at].Node = v })
		}
	}
	turn(func(h *api.Head) { h.House = 17 })
	turn(func(h *api.Head) { h.Gen = 65536 })
	turn(func(h *api.Head) { h.Life = 1 << 20 })
	turn(func(h *api.Head) { h.Seq = 1<<40 + 1 })
	turn(func(h *api.Head) { h.Next = -1 })
	turn(func(h *api.Head) { h.Next = 65536 })
	turn(func(h *api.Head) { h.Clock = tick + 1 })
	turn(func(h *api.Head) { h.SinceBlocks = tick + 2 })
	turn(func(h *api.Head) { h.SinceNodes = -1 })
	for at := range n {
		turn(func(h *api.Head) { h.List[at].Part = -1 })
		turn(func(h *api.Head) { h.List[at] = api.Entry{Kind: api.Data, Node: 1, Part: 588} })
		turn(func(h *api.Head) { h.List[at] = api.Entry{Kind: api.Map, Node: 2} })
	}
	return append(l, api.Head{List: entries(n)})
}

func all(b byte) string { return strings.Repeat(string([]byte{b}), bytes) }

// noise is n blocks of any bytes, others for each seed.
func noise(n int, seed int64) []string {
	r := rand.New(rand.NewSource(seed))
	var l []string
	for range n {
		b := make([]byte, bytes)
		r.Read(b)
		l = append(l, string(b))
	}
	return l
}

// payloads are some lists of n blocks.
func payloads(n int) [][]string {
	zeros, ones := slices.Repeat([]string{all(0)}, n), slices.Repeat([]string{all(255)}, n)
	marks := slices.Repeat([]string{"BGCH" + all(0)[4:]}, n)
	var letters []string
	for i := range n {
		letters = append(letters, all(byte('a'+i)))
	}
	return [][]string{zeros, ones, marks, letters, noise(n, 130)}
}

// plain is what P13.1 and P8.1 say of a chunk's bytes, without a look at the
// numbers.
func plain(h api.Head, blocks []string) string {
	b := []byte("BGCH")
	number := func(v, n int) { b = append(b, bytesOf(v, n)...) }
	number(h.House, 1)
	number(h.Gen, 2)
	number(h.Life, 3)
	number(h.Seq, 6)
	number(h.Next, 2)
	number(h.Clock, 6)
	number(h.SinceBlocks, 6)
	number(h.SinceNodes, 6)
	number(len(h.List), 1)
	for _, e := range h.List {
		number(e.Kind, 1)
		number(e.Node, 1)
		number(e.Part, 2)
	}
	front := string(append(b, make([]byte, sumAt-len(b))...))
	body := ""
	for _, block := range blocks {
		body += block
	}
	return front + bytesOf(sumOf(front+body), sumBytes) + body
}

func bytesOf(v, n int) string {
	return string(binary.LittleEndian.AppendUint64(nil, uint64(v))[:n])
}

func sumOf(s string) int { return int(crc32.ChecksumIEEE([]byte(s))) }

// with is a text with other bytes at a place.
func with(s string, at int, other string) string { return s[:at] + other + s[at+len(other):] }

// turned is a text with one of its bits turned.
func turned(s string, bit int) string {
	return with(s, bit/8, string([]byte{s[bit/8] ^ 1<<(bit%8)}))
}

// same holds every field, and the Lists as lists: nil is an empty one.
func same(a, b api.Head) bool {
	return a.House == b.House && a.Gen == b.Gen && a.Life == b.Life && a.Seq == b.Seq && a.Next == b.Next &&
		a.Clock == b.Clock && a.SinceBlocks == b.SinceBlocks && a.SinceNodes == b.SinceNodes && slices.Equal(a.List, b.List)
}

func makes(t *testing.T, h api.Head, blocks []string) string {
	t.Helper()
	s, ok := chunk.Make(h, blocks)
	if want := plain(h, blocks); !ok || s != want {
		t.Fatalf("Make(%+v, %d blocks): %x, %v, want %x", h, len(blocks), s, ok, want)
	}
	return s
}

func makesNot(t *testing.T, what string, h api.Head, blocks []string) {
	t.Helper()
	if s, ok := chunk.Make(h, blocks); ok || s != "" {
		t.Errorf("%s: Make(%+v, %d blocks): %d bytes, %v", what, h, len(blocks), len(s), ok)
	}
}

func parses(t *testing.T, what, s string, h api.Head, blocks []string) {
	t.Helper()
	got, l, ok := chunk.Parse(s)
	if !ok || !same(got, h) || !slices.Equal(l, blocks) {
		t.Errorf("%s: Parse of %d bytes: %+v, %x, %v, want %+v, %x", what, len(s), got, l, ok, h, blocks)
	}
}

func parsesNot(t *testing.T, what, s string) {
	t.Helper()
	if h, l, ok := chunk.Parse(s); ok || len(l) != 0 || !same(h, api.Head{}) {
		t.Errorf("%s: Parse of %d bytes: %+v, %x, %v", what, len(s), h, l, ok)
	}
}

func TestLimitsThatTheTestsWriteOut(t *testing.T) {
	if api.Block != bytes || api.MaxPay != mostPay || api.MaxTick != tick || api.MaxHouses != 16 || api.MaxNodes != 255 || api.MaxBlocks != 588 {
		t.Error("the limits are others than those that these tests write out")
	}
}

// P13.1: Make

func TestMakeTheExample(t *testing.T) {
	want := "BGCH\x01\x01\x00\x01\x00\x00\x01" + strings.Repeat("\x00", 241)
	want += bytesOf(sumOf(want), sumBytes)
	for _, none := range [][]string{nil, {}} {
		s, ok := chunk.Make(least(), none)
		if !ok || s != want || len(s) != bytes {
			t.Errorf("Make of no blocks: %x, %v", s, ok)
		}
	}
}

func TestMakeWrittenOut(t *testing.T) {
	h := some(0)
	h.List = []api.Entry{{Kind: api.Data, Node: 10, Part: 11}, {Kind: api.Ino, Node: 10}}
	front := "BGCH" + "\x02" + "\x03\x00" + "\x04\x00\x00" + "\x05\x00\x00\x00\x00\x00" + "\x06\x00" +
		"\x07\x00\x00\x00\x00\x00" + "\x08\x00\x00\x00\x00\x00" + "\x09\x00\x00\x00\x00\x00" +
		"\x02" + "\x01\x0a\x0b\x00" + "\x03\x0a\x00\x00"
	front += strings.Repeat("\x00", sumAt-len(front))
	a, b := all('a'), all('b')
	want := front + bytesOf(sumOf(front+a+b), sumBytes) + a + b
	if s, ok := chunk.Make(h, []string{a, b}); !ok || s != want {
		t.Errorf("%x, %v, want %x", s, ok, want)
	}
	// The blocks stand in their order.
	if s, ok := chunk.Make(h, []string{b, a}); !ok || s == want || s[bytes:] != b+a {
		t.Errorf("exchanged: %x, %v", s, ok)
	}
}

func TestMakeOfEachNumberOfBlocks(t *testing.T) {
	for n := range mostPay + 1 {
		for _, blocks := range payloads(n) {
			s := makes(t, some(n), blocks)
			front, ok := head.Put(some(n), strings.Join(blocks, ""))
			if !ok || s[:bytes] != front || len(s) != bytes*(1+n) {
				t.Errorf("%d blocks: %d bytes, %x, head's Put: %x", n, len(s), s[:bytes], front)
			}
		}
	}
	makes(t, greatest(), noise(mostPay, 131))
}

func TestMakeOfOtherNumbersOfBlocks(t *testing.T) {
	for n := range mostPay + 1 {
		for m := range mostPay + 3 {
			if n != m {
				makesNot(t, "another number of blocks", some(n), noise(m, 132))
			}
		}
		makesNot(t, "many blocks", some(n), slices.Repeat([]string{all('m')}, 1000))
	}
	for n := mostPay + 1; n < 300; n++ {
		makesNot(t, "more than MaxPay", some(n), slices.Repeat([]string{all('m')}, n))
		makesNot(t, "more than MaxPay of List", some(n), noise(mostPay, 133))
	}
}

func TestMakeOfBlocksOfOtherLengths(t *testing.T) {
	for n := 1; n <= mostPay; n++ {
		blocks := noise(n, 134)
		for at := range n {
			for _, wrong := range []int{0, 1, 2, 128, 252, 254, 255, 257, 258, 260, 511, 512, 513, 65536 + 256} {
				other := slices.Clone(blocks)
				other[at] = strings.Repeat("w", wrong)
				makesNot(t, "a block of another length", some(n), other)
			}
		}
	}
}

// All bytes are as many as they must be, but not in blocks.
func TestMakeOfBlocksThatMakeUpForEachOther(t *testing.T) {
	for n := 2; n <= mostPay; n++ {
		body := strings.Join(noise(n, 135), "")
		for at := range n - 1 {
			for _, long := range []int{0, 1, 255, 257, 511, 512} {
				blocks := noise(n, 135)
				both := body[bytes*at : bytes*(at+2)]
				blocks[at], blocks[at+1] = both[:long], both[long:]
				makesNot(t, "two blocks that are one another's end", some(n), blocks)
			}
		}
		blocks := noise(n, 135)
		blocks[0], blocks[n-1] = blocks[0][1:], blocks[n-1]+"l"
		makesNot(t, "the first too short, the last too long", some(n), blocks)
		blocks[0], blocks[n-1] = noise(1, 135)[0]+"l", all('l')[1:]
		makesNot(t, "the first too long, the last too short", some(n), blocks)
		makesNot(t, "all of it as one block", some(n), []string{body})
		makesNot(t, "an empty block more", some(n), append(noise(n, 135), ""))
		makesNot(t, "an empty block ahead", some(n), append([]string{""}, noise(n, 135)...))
		makesNot(t, "all of it behind empty blocks", some(n), append(make([]string, n-1), body))
	}
	makesNot(t, "an empty block", some(0), []string{""})
	makesNot(t, "many empty blocks", some(0), make([]string, 1000))
	makesNot(t, "two halves", some(1), []string{all('h')[:128], all('h')[:128]})
	makesNot(t, "each byte a block", some(1), strings.Split(all('h'), ""))
}

func TestMakeOfHeadsThatMayNotBe(t *testing.T) {
	for _, n := range []int{0, 1, 2, mostPay} {
		for _, h := range wrongHeads(n) {
			if head.Check(h) {
				t.Fatalf("%+v may be", h)
			}
			makesNot(t, "a head that may not be", h, noise(n, 136))
			makesNot(t, "a head that may not be, and no blocks", h, nil)
			makesNot(t, "a head that may not be, and a short block", h, []string{"short"})
		}
	}
}

// P13.1: Parse

func TestParseOfEachNumberOfBlocks(t *testing.T) {
	for n := range mostPay + 1 {
		for _, blocks := range payloads(n) {
			parses(t, "alone", plain(some(n), blocks), some(n), blocks)
		}
	}
	parses(t, "the least", plain(least(), nil), least(), nil)
	blocks := noise(mostPay, 137)
	parses(t, "the greatest", plain(greatest(), blocks), greatest(), blocks)
}

func TestParseTakesWhatStandsBehind(t *testing.T) {
	long := strings.Join(noise(2*mostPay, 138), "")
	for n := range mostPay + 1 {
		for _, blocks := range payloads(n) {
			s := plain(some(n), blocks)
			other := plain(some(1), []string{all('o')})
			for _, more := range []string{"\x00", "x", "\xff", all(0), all('y'), all(255), s, other, other[:300], long} {
				parses(t, "with more behind it", s+more, some(n), blocks)
			}
			for k := range 300 {
				parses(t, "with more behind it", s+long[:k], some(n), blocks)
			}
		}
	}
}

func TestParseOfTextsThatAreCut(t *testing.T) {
	parsesNot(t, "nothing", "")
	for _, n := range []int{0, 1, 2, mostPay} {
		for _, blocks := range payloads(n) {
			s := plain(some(n), blocks)
			for k := range len(s) {
				parsesNot(t, "cut at its end", s[:k])
			}
			for k := 1; k < len(s); k += 53 {
				parsesNot(t, "cut at its beginning", s[k:])
			}
			if n > 0 {
				parsesNot(t, "without its head", s[bytes:])
			}
		}
	}
	for n := 1; n <= mostPay; n++ {
		for _, blocks := range payloads(n) {
			s := plain(some(n), blocks)
			parsesNot(t, "the head alone", s[:bytes])
			parsesNot(t, "a block less", s[:len(s)-bytes])
			parsesNot(t, "a byte less", s[:len(s)-1])
		}
	}
}

// A head whose sum is that of fewer blocks than it lists is of no chunk.
func TestParseOfSumsOfFewerBlocks(t *testing.T) {
	for n := 1; n <= mostPay; n++ {
		blocks := noise(n, 139)
		for m := range n {
			s := plain(some(n), blocks[:m])
			parsesNot(t, "fewer blocks than List", s)
			parsesNot(t, "fewer blocks than List, and a byte less than one", s+blocks[m][1:])
			parsesNot(t, "the sum of fewer blocks", s+strings.Join(blocks[m:], ""))
		}
		parsesNot(t, "the sum of more blocks", plain(some(n), append(slices.Clone(blocks), all('m'))))
		parsesNot(t, "the sum of a byte more", plain(some(n), append(slices.Clone(blocks), "m")))
	}
	parsesNot(t, "the sum of a block that is not listed", plain(some(0), []string{all('m')}))
}

func TestParseOfOtherSums(t *testing.T) {
	for _, n := range []int{0, 1, 2, mostPay} {
		for _, blocks := range payloads(n) {
			s := plain(some(n), blocks)
			body := s[bytes:]
			sum := sumOf(s[:sumAt] + body)
			for _, other := range []int{0, 1, 1 << 31, 1<<32 - 1, ^sum, sum + 1, sum - 1, sumOf(s[:sumAt]), sumOf(body), sumOf(s), sumOf(body + s[:sumAt])} {
				if u := with(s, sumAt, bytesOf(other, sumBytes)); u != s {
					parsesNot(t, "another sum", u)
				}
			}
		}
	}
}

func TestParseOfBlocksThatAreExchanged(t *testing.T) {
	for n := 2; n <= mostPay; n++ {
		blocks := noise(n, 140)
		s := plain(some(n), blocks)
		for i := range n {
			for k := range i {
				other := slices.Clone(blocks)
				other[i], other[k] = other[k], other[i]
				parsesNot(t, "two blocks exchanged", s[:bytes]+strings.Join(other, ""))
			}
		}
		alike := slices.Repeat([]string{all('s')}, n)
		u := plain(some(n), alike)
		parses(t, "blocks that are the same", u, some(n), alike)
	}
}

func TestParseOfBlocksOfOtherChunks(t *testing.T) {
	for n := 1; n <= mostPay; n++ {
		blocks, others := noise(n, 141), noise(n, 142)
		s, u := plain(some(n), blocks), plain(some(n), others)
		for at := range n {
			place := bytes * (1 + at)
			parsesNot(t, "a block of another chunk", with(s, place, others[at]))
			parsesNot(t, "a block of another chunk", with(u, place, blocks[at]))
			parsesNot(t, "bytes 0 in a block's place", with(s, place, all(0)))
			parsesNot(t, "a head in a block's place", with(s, place, u[:bytes]))
		}
		parsesNot(t, "another chunk's head", u[:bytes]+s[bytes:])
		parsesNot(t, "another chunk's blocks", s[:bytes]+u[bytes:])
		next := some(n)
		next.Seq++
		parsesNot(t, "the next chunk's head", plain(next, others)[:bytes]+s[bytes:])
	}
}

// The sum is right for bytes that are no head, and all the same they are none.
func TestParseOfBytesThatAreNoHead(t *testing.T) {
	for _, n := range []int{0, 1, 2, mostPay} {
		blocks := noise(n, 143)
		body := strings.Join(blocks, "")
		s := plain(some(n), blocks)
		summed := func(front string) string { return front + bytesOf(sumOf(front+body), sumBytes) + body }
		parses(t, "itself", summed(s[:sumAt]), some(n), blocks)
		for _, mark := range []string{"BGTB", "BGSL", "BGND", "bgch", "\x00\x00\x00\x00"} {
			parsesNot(t, "another mark", summed(with(s, 0, mark)[:sumAt]))
		}
		for many := range 256 {
			if many != n {
				parsesNot(t, "another number of List", summed(with(s, manyAt, string([]byte{byte(many)}))[:sumAt]))
			}
		}
		for _, h := range wrongHeads(n) {
			// Some numbers may be, once they are cut to their bytes.
			u := plain(h, blocks)
			if _, _, ok := head.Get(u); !ok {
				parsesNot(t, "a head that may not be", u)
			}
		}
		parsesNot(t, "no byte 0 ahead of the sum", summed(with(s, sumAt-1, "\x01")[:sumAt]))
		parsesNot(t, "bytes 0", summed(all(0)[:sumAt]))
		parsesNot(t, "bytes 255", summed(all(255)[:sumAt]))
		for _, ahead := range []string{"\x00", "x", all(0), all('x'), all(255), body} {
			if ahead != "" {
				parsesNot(t, "a text ahead", ahead+s)
			}
		}
	}
	for _, n := range []int{1, 10, 255, 256, 257, 1000, 100000} {
		parsesNot(t, "bytes 0", strings.Repeat("\x00", n))
		parsesNot(t, "letters", strings.Repeat("x", n))
	}
}

// Of what is no head the sum is told to be 0, and that is these texts' own.
func TestParseOfTextsWhoseSumIsZero(t *testing.T) {
	for _, text := range append(noise(20, 152), all(0), all('x'), plain(some(1), nil)[1:]) {
		front := text[:sumAt-sumBytes]
		// The sum of these four bytes alone is 0; so is that of any text and
		// what turns its sum into them.
		front += bytesOf(sumOf(front)^0x6DD90A9D, sumBytes)
		if sumOf(front) != 0 {
			t.Fatalf("the sum of %x is %#x", front, sumOf(front))
		}
		for _, more := range []string{all(0)[:sumBytes], all(255)[:sumBytes], all(0), all('x') + all('x')} {
			parsesNot(t, "no head, of sum 0", front+more)
		}
	}
}

// P13.2

func TestWhatIsMadeIsParsed(t *testing.T) {
	r := rand.New(rand.NewSource(144))
	for i := range 2000 {
		n := r.Intn(mostPay + 1)
		h := api.Head{
			House: 1 + r.Intn(16), Gen: 1 + r.Intn(65535), Life: 1 + r.Intn(1<<20-1), Seq: 1 + r.Intn(1<<40), Next: r.Intn(65536),
			Clock: r.Intn(tick + 1), SinceBlocks: r.Intn(tick + 2), SinceNodes: r.Intn(tick + 2), List: entries(n),
		}
		r.Shuffle(n, func(a, b int) { h.List[a], h.List[b] = h.List[b], h.List[a] })
		blocks := noise(n, int64(1000+i))
		s := makes(t, h, blocks)
		parses(t, "alone", s, h, blocks)
		parses(t, "with more behind it", s+strings.Join(noise(1+r.Intn(3), int64(i)), "")[r.Intn(bytes):], h, blocks)
	}
}

func TestChunksInARowAreParsedOneByOne(t *testing.T) {
	row := ""
	for n := range mostPay + 1 {
		row += makes(t, some(n), noise(n, int64(n)))
	}
	row += "the end"
	for n := range mostPay + 1 {
		parses(t, "in a row", row, some(n), noise(n, int64(n)))
		row = row[bytes*(1+n):]
	}
	parsesNot(t, "the row's end", row)
}

func TestWithABitTurnedItIsNone(t *testing.T) {
	for _, n := range []int{0, 1, 2, 5, mostPay} {
		for _, blocks := range payloads(n) {
			for _, h := range []api.Head{some(n), {House: 16, Gen: 65535, Life: 1<<20 - 1, Seq: 1, List: entries(n)}} {
				s := makes(t, h, blocks)
				step := 1 + 6*min(n, 2)
				for bit := 0; bit < 8*bytes; bit++ {
					parsesNot(t, "a bit of the head turned", turned(s, bit))
				}
				for bit := 8 * bytes; bit < 8*len(s); bit += step {
					parsesNot(t, "a bit of a block turned", turned(s, bit))
				}
				parsesNot(t, "the last bit turned", turned(s, 8*len(s)-1))
			}
		}
	}
}

// A bit turned behind the chunk is not the chunk's.
func TestABitTurnedBehindPlaysNoPart(t *testing.T) {
	blocks := noise(3, 145)
	s := makes(t, some(3), blocks)
	for bit := range 8 * bytes {
		parses(t, "a bit behind it turned", s+turned(s, bit), some(3), blocks)
	}
}

// T2, as far as a chunk bears it: written over what was there, it is whole, or
// it is none.
func TestAChunkThatIsWrittenInPartIsNone(t *testing.T) {
	blocks := noise(5, 146)
	s := makes(t, some(5), blocks)
	older := some(5)
	older.Seq, older.Life = 2, 1
	grounds := []string{strings.Repeat("\x00", len(s)), makes(t, older, noise(5, 147)), strings.Repeat("g", len(s))}
	for _, ground := range grounds {
		for kept := range 1 << 6 {
			text := ""
			for at := range 6 {
				from := s
				if kept>>at&1 == 0 {
					from = ground
				}
				text += from[bytes*at : bytes*(at+1)]
			}
			switch {
			case kept == 1<<6-1:
				parses(t, "written in all", text, some(5), blocks)
			case kept == 0 && ground == grounds[1]:
				parses(t, "not written", text, older, noise(5, 147))
			default:
				parsesNot(t, "written in part", text)
			}
		}
	}
}

// The rules for what is handed in, and for what an answer hangs on

func TestWhatIsHandedInIsNotChanged(t *testing.T) {
	wrong := some(3)
	wrong.List[2].Part = -1
	short := noise(3, 148)
	short[1] = "short"
	for _, h := range []api.Head{some(3), some(2), wrong, {}} {
		for _, l := range [][]string{noise(3, 148), short, nil} {
			// The spare room of both lists is not changed either.
			listRoom := append(slices.Clone(h.List), api.Entry{Kind: 71}, api.Entry{Kind: 72})
			room := append(slices.Clone(l), "spare", "room", "of the blocks")
			listWas, was := slices.Clone(listRoom), slices.Clone(room)
			given := h
			given.List = listRoom[:len(h.List)]
			chunk.Make(given, room[:len(l)])
			if !same(given, h) || !slices.Equal(listRoom, listWas) {
				t.Errorf("the head became %+v, %+v", given, listRoom)
			}
			if !slices.Equal(room, was) {
				t.Errorf("the blocks became %#v", room)
			}
		}
	}
}

func TestWhatIsMadeIsNotKept(t *testing.T) {
	h, blocks := some(3), noise(3, 149)
	s := makes(t, h, blocks)
	clear(h.List)
	clear(blocks)
	if s != plain(some(3), noise(3, 149)) {
		t.Error("it became another chunk")
	}
	makes(t, some(3), noise(3, 149))
	parses(t, "made", s, some(3), noise(3, 149))
}

func TestWhatIsAnsweredIsTheCallersOwn(t *testing.T) {
	for _, n := range []int{0, 1, 3, mostPay} {
		blocks := noise(n, 150)
		s := makes(t, some(n), blocks)
		h, l, _ := chunk.Parse(s)
		again, second, _ := chunk.Parse(s)
		for room, i := l[:cap(l)], 0; i < len(room); i++ {
			room[i] = "written over"
		}
		for room, i := h.List[:cap(h.List)], 0; i < len(room); i++ {
			room[i] = api.Entry{Kind: 99}
		}
		if !same(again, some(n)) || !slices.Equal(second, blocks) {
			t.Errorf("two answers have one list: %+v, %x", again, second)
		}
		if slices.Contains(second[:cap(second)], "written over") || slices.Contains(again.List[:cap(again.List)], api.Entry{Kind: 99}) {
			t.Error("two answers have one spare room")
		}
		parses(t, "again", s, some(n), blocks)
	}
}

func TestAnswersHangOnTheArgumentsAlone(t *testing.T) {
	blocks := noise(4, 151)
	s := plain(some(4), blocks)
	for range 3 {
		makesNot(t, "the zero head", api.Head{}, nil)
		makesNot(t, "a short block", some(1), []string{"short"})
		parsesNot(t, "nothing", "")
		parsesNot(t, "a bit turned", turned(s, 3000))
		parses(t, "the least", makes(t, least(), nil), least(), nil)
		if makes(t, some(4), blocks) != s {
			t.Error("it is made otherwise")
		}
		parses(t, "made", s, some(4), blocks)
	}
}
