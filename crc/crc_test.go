package crc_test

import (
	"hash/crc32"
	"math/rand"
	"strings"
	"testing"

	"beguinage/crc"
)

// plain is P2.1 word by word, a bit at a time.
func plain(s string) uint32 {
	hand := uint32(0xFFFFFFFF)
	for _, b := range []byte(s) {
		hand ^= uint32(b)
		for range 8 {
			if hand%2 == 1 {
				hand = hand/2 ^ 0xEDB88320
			} else {
				hand /= 2
			}
		}
	}
	return hand ^ 0xFFFFFFFF
}

func text(r *rand.Rand, length int) string {
	b := make([]byte, length)
	r.Read(b)
	return string(b)
}

func turned(s string, bit int) string {
	b := []byte(s)
	b[bit/8] ^= 1 << (bit % 8)
	return string(b)
}

func sums(t *testing.T, s string, want uint32) {
	t.Helper()
	if got := crc.Of(s); got != want {
		t.Errorf("Of %.12q (%d bytes): %#08x, want %#08x", s, len(s), got, want)
	}
	if got := crc.ByTable(0, s); got != want {
		t.Errorf("ByTable of %.12q (%d bytes): %#08x, want %#08x", s, len(s), got, want)
	}
}

func goesOn(t *testing.T, sum uint32, s string, want uint32) {
	t.Helper()
	if got := crc.More(sum, s); got != want {
		t.Errorf("More(%#08x, %.12q): %#08x, want %#08x", sum, s, got, want)
	}
	if got := crc.ByTable(sum, s); got != want {
		t.Errorf("ByTable(%#08x, %.12q): %#08x, want %#08x", sum, s, got, want)
	}
}

// P2.1

func TestOfTheExample(t *testing.T) { sums(t, "123456789", 0xCBF43926) }

func TestOfKnownTexts(t *testing.T) {
	for s, want := range map[string]uint32{
		"":                         0,
		"\x00":                     0xD202EF8D,
		"\xff":                     0xFF000000,
		"a":                        0xE8B7BE43,
		"abc":                      0x352441C2,
		"message digest":           0x20159D7F,
		strings.Repeat("\x00", 32): 0x190A55AD,
		strings.Repeat("\xff", 32): 0xFF6CAB0B,
	} {
		sums(t, s, want)
	}
}

func TestOfEachByteByItself(t *testing.T) {
	seen := map[uint32]bool{}
	for b := range 256 {
		s := string([]byte{byte(b)})
		sums(t, s, plain(s))
		seen[crc.Of(s)] = true
	}
	if len(seen) != 256 {
		t.Errorf("%d sums of 256 bytes", len(seen))
	}
}

func TestOfEachTwoBytes(t *testing.T) {
	for n := range 1 << 16 {
		s := string([]byte{byte(n >> 8), byte(n)})
		sums(t, s, plain(s))
	}
}

// The library's sums are a second witness, beside plain.
func TestOfTextsOfEachLength(t *testing.T) {
	r := rand.New(rand.NewSource(2))
	for length := range 600 {
		s := text(r, length)
		sums(t, s, plain(s))
		sums(t, s, crc32.ChecksumIEEE([]byte(s)))
	}
}

func TestOfLongTexts(t *testing.T) {
	r := rand.New(rand.NewSource(3))
	for _, s := range []string{
		text(r, 1<<16-1),
		text(r, 1<<16),
		text(r, 1<<20+13),
		strings.Repeat("\x00", 1<<20),
		strings.Repeat("\xff", 1<<20),
	} {
		sums(t, s, plain(s))
		sums(t, s, crc32.ChecksumIEEE([]byte(s)))
	}
}

func TestOfHangsOnTheBytesAlone(t *testing.T) {
	for _, s := range []string{"béguinage", "\xc3", "\xff\xfe", "中", "a\x00", "\x00a"} {
		sums(t, s, plain(s))
	}
	crc.More(7, "in between")
	sums(t, "123456789", 0xCBF43926)
}

func TestMoreGoesOnAtEachCut(t *testing.T) {
	r := rand.New(rand.NewSource(4))
	for _, s := range []string{"", "a", "123456789", text(r, 256), text(r, 1000)} {
		want := plain(s)
		for cut := range len(s) + 1 {
			goesOn(t, crc.Of(s[:cut]), s[cut:], want)
		}
	}
}

func TestMoreGoesOnByteByByte(t *testing.T) {
	s := text(rand.New(rand.NewSource(5)), 3000)
	sum := crc.Of("")
	for i := range len(s) {
		sum = crc.More(sum, s[i:i+1])
		if want := plain(s[:i+1]); sum != want {
			t.Fatalf("behind byte %d: %#08x, want %#08x", i, sum, want)
		}
	}
}

func TestMoreGoesOnInManyPieces(t *testing.T) {
	r := rand.New(rand.NewSource(6))
	for range 300 {
		s := text(r, r.Intn(2000))
		sum, at := crc.Of(""), 0
		for at < len(s) {
			end := at + r.Intn(len(s)-at+1)
			sum, at = crc.More(sum, s[at:end]), end
		}
		if want := plain(s); sum != want {
			t.Errorf("%d bytes in pieces: %#08x, want %#08x", len(s), sum, want)
		}
	}
}

func TestMoreOfAnEmptyTextIsTheSum(t *testing.T) {
	r := rand.New(rand.NewSource(7))
	for _, sum := range []uint32{0, 1, 0xCBF43926, 1 << 31, 0xFFFFFFFE, 0xFFFFFFFF, r.Uint32()} {
		goesOn(t, sum, "", sum)
	}
}

func TestMoreOfAnySum(t *testing.T) {
	r := rand.New(rand.NewSource(8))
	for _, sum := range []uint32{0, 1, 0x7FFFFFFF, 1 << 31, 0xFFFFFFFF, r.Uint32(), r.Uint32()} {
		s := text(r, 100)
		goesOn(t, sum, s, crc32.Update(sum, crc32.IEEETable, []byte(s)))
	}
}

// P2.2

func TestABitTurnedTurnsTheSum(t *testing.T) {
	r := rand.New(rand.NewSource(9))
	for _, s := range []string{"\x00", "\xff", "a", "123456789", text(r, 256), strings.Repeat("\x00", 256), text(r, 1500)} {
		sum := crc.Of(s)
		for bit := range 8 * len(s) {
			other := turned(s, bit)
			if crc.Of(other) == sum {
				t.Errorf("%.12q: bit %d turned leaves the sum", s, bit)
			}
			sums(t, other, crc32.ChecksumIEEE([]byte(other)))
		}
	}
}

func TestABitTurnedInALongTextTurnsTheSum(t *testing.T) {
	r := rand.New(rand.NewSource(10))
	s := text(r, 1<<18)
	sum, bits := crc.Of(s), 8*len(s)
	for _, bit := range []int{0, 7, 8, bits / 2, bits - 9, bits - 1, r.Intn(bits), r.Intn(bits)} {
		if crc.Of(turned(s, bit)) == sum {
			t.Errorf("bit %d turned leaves the sum", bit)
		}
	}
}

// A bit that is turned ahead of the cut turns the sum of the whole too.
func TestABitTurnedInTheSumTurnsWhatMoreAnswers(t *testing.T) {
	s := text(rand.New(rand.NewSource(11)), 300)
	sum := crc.Of("before")
	for bit := range 32 {
		if crc.More(sum^1<<bit, s) == crc.More(sum, s) {
			t.Errorf("bit %d of the sum turned leaves what follows", bit)
		}
	}
}
