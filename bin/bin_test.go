package bin_test

import (
	"math"
	"math/rand"
	"strings"
	"testing"

	"beguinage/api"
	"beguinage/bin"
)

const longest = api.MaxSectors * api.Block

// power is 256 times itself, n times: the first number that n bytes don't hold.
func power(n int) int {
	p := 1
	for range n {
		p *= 256
	}
	return p
}

// rest is v by P3.1: what n bytes hold of it.
func rest(v, n int) int {
	return ((v % power(n)) + power(n)) % power(n)
}

// plainPut is P3.1 by division alone.
func plainPut(v, n int) string {
	var b []byte
	for v = rest(v, n); len(b) < n; v /= 256 {
		b = append(b, byte(v%256))
	}
	return string(b)
}

// plainGet is P3.1 by multiplication alone.
func plainGet(s string) int {
	v := 0
	for i := len(s) - 1; i >= 0; i-- {
		v = v*256 + int(s[i])
	}
	return v
}

// numbers are those at the edges of what n bytes hold, for each n, and some others.
func numbers() []int {
	all := []int{0, 1, 2, 7, 100, 258, math.MaxInt, math.MaxInt - 1, math.MinInt, math.MinInt + 1}
	for n := range 8 {
		p := power(n)
		all = append(all, p-1, p, p+1, p/2, p/2-1, -p, -p-1, -p+1)
	}
	r := rand.New(rand.NewSource(31))
	for range 300 {
		all = append(all, int(r.Uint64()>>r.Intn(64)), -int(r.Uint64()>>r.Intn(64)))
	}
	return all
}

func text(r *rand.Rand, length int) string {
	b := make([]byte, length)
	r.Read(b)
	return string(b)
}

func puts(t *testing.T, v, n int, want string) {
	t.Helper()
	if got := bin.Put(v, n); got != want {
		t.Errorf("Put(%d, %d): % x, want % x", v, n, got, want)
	}
}

func gets(t *testing.T, s string, at, n, want int) {
	t.Helper()
	if got, ok := bin.Get(s, at, n); got != want || !ok {
		t.Errorf("Get(%.20q, %d, %d): %d, %v, want %d", s, at, n, got, ok, want)
	}
}

func getsNot(t *testing.T, s string, at, n int) {
	t.Helper()
	if got, ok := bin.Get(s, at, n); got != 0 || ok {
		t.Errorf("Get(%.20q, %d, %d): %d, %v, want 0, false", s, at, n, got, ok)
	}
}

func pads(t *testing.T, s string, n int) {
	t.Helper()
	want := s + string(make([]byte, n-len(s)))
	if got, ok := bin.Pad(s, n); got != want || !ok {
		t.Errorf("Pad(%.20q, %d): %.20q (%d bytes), %v", s, n, got, len(got), ok)
	}
}

func padsNot(t *testing.T, s string, n int) {
	t.Helper()
	if got, ok := bin.Pad(s, n); got != "" || ok {
		t.Errorf("Pad(%.20q, %d): %.20q (%d bytes), %v, want empty, false", s, n, got, len(got), ok)
	}
}

func cuts(t *testing.T, s, want string) {
	t.Helper()
	if got, ok := bin.Cut(s); got != want || !ok {
		t.Errorf("Cut(%.20q): %.20q, %v, want %.20q", s, got, ok, want)
	}
}

func cutsNot(t *testing.T, s string) {
	t.Helper()
	if got, ok := bin.Cut(s); got != "" || ok {
		t.Errorf("Cut(%.20q): %.20q, %v, want empty, false", s, got, ok)
	}
}

// P3.1: Put

func TestPutTheExample(t *testing.T) { puts(t, 258, 2, "\x02\x01") }

func TestPutTheLowestFirst(t *testing.T) {
	v := 0x77665544332211
	whole := "\x11\x22\x33\x44\x55\x66\x77"
	for n := range 8 {
		puts(t, v, n, whole[:n])
	}
}

func TestPutFillsUpWithBytesNought(t *testing.T) {
	puts(t, 0, 7, "\x00\x00\x00\x00\x00\x00\x00")
	puts(t, 1, 4, "\x01\x00\x00\x00")
	puts(t, 1<<40, 7, "\x00\x00\x00\x00\x00\x01\x00")
}

func TestPutCutsN(t *testing.T) {
	for _, v := range []int{0, 5, -1, math.MaxInt, math.MinInt, 0x1122334455667788} {
		for _, n := range []int{0, -1, -2, -8, math.MinInt} {
			puts(t, v, n, "")
		}
		for _, n := range []int{8, 9, 64, 1 << 40, math.MaxInt} {
			puts(t, v, n, plainPut(v, 7))
		}
	}
	puts(t, 0x1122334455667788, 7, "\x88\x77\x66\x55\x44\x33\x22")
}

func TestPutNumbersBelowNought(t *testing.T) {
	puts(t, -1, 1, "\xff")
	puts(t, -1, 7, "\xff\xff\xff\xff\xff\xff\xff")
	puts(t, -2, 3, "\xfe\xff\xff")
	puts(t, -256, 2, "\x00\xff")
	puts(t, -257, 2, "\xff\xfe")
	puts(t, math.MinInt, 7, "\x00\x00\x00\x00\x00\x00\x00")
	puts(t, math.MinInt+1, 7, "\x01\x00\x00\x00\x00\x00\x00")
}

func TestPutNumbersThatNBytesDoNotHold(t *testing.T) {
	puts(t, 256, 1, "\x00")
	puts(t, 257, 1, "\x01")
	puts(t, 1<<56, 7, "\x00\x00\x00\x00\x00\x00\x00")
	puts(t, 1<<56+3, 7, "\x03\x00\x00\x00\x00\x00\x00")
	puts(t, math.MaxInt, 7, "\xff\xff\xff\xff\xff\xff\xff")
}

func TestPutEveryNumberAtEachN(t *testing.T) {
	for _, v := range numbers() {
		for n := range 8 {
			puts(t, v, n, plainPut(v, n))
		}
	}
}

// P3.1: Get

func TestGetTheExampleBack(t *testing.T) { gets(t, "\x02\x01", 0, 2, 258) }

func TestGetEachN(t *testing.T) {
	s := "\x11\x22\x33\x44\x55\x66\x77\x88"
	want := []int{0, 0x11, 0x2211, 0x332211, 0x44332211, 0x5544332211, 0x665544332211, 0x77665544332211}
	for n, v := range want {
		gets(t, s, 0, n, v)
	}
	for _, n := range []int{8, 9, 64, math.MaxInt, -1, -2, -8, math.MinInt} {
		getsNot(t, s, 0, n)
		getsNot(t, strings.Repeat("a", 100), 50, n)
	}
}

func TestGetIsNeverBelowNought(t *testing.T) {
	for n := 1; n < 8; n++ {
		gets(t, "\xff\xff\xff\xff\xff\xff\xff", 0, n, power(n)-1)
		gets(t, "\x00\x00\x00\x00\x00\x00\x00", 0, n, 0)
	}
}

func TestGetAtEachPlace(t *testing.T) {
	s := text(rand.New(rand.NewSource(32)), 40)
	for n := range 8 {
		for at := range len(s) - n + 1 {
			gets(t, s, at, n, plainGet(s[at:at+n]))
		}
		for _, at := range []int{-1, -2, -n, -n - 1, -len(s), len(s) - n + 1, len(s) + 1, 2 * len(s)} {
			if at != 0 {
				getsNot(t, s, at, n)
			}
		}
	}
}

func TestGetAtPlacesAsGreatAsAnIntMayBe(t *testing.T) {
	for _, s := range []string{"", "ab", "abcdefghi"} {
		for n := range 8 {
			for back := range 9 {
				getsNot(t, s, math.MaxInt-back, n)
				getsNot(t, s, math.MinInt+back, n)
			}
		}
	}
}

func TestGetBothArgumentsWrong(t *testing.T) {
	for _, at := range []int{-1, 4, math.MaxInt, math.MinInt} {
		for _, n := range []int{-1, 8, math.MaxInt, math.MinInt} {
			getsNot(t, "abc", at, n)
		}
	}
}

func TestGetOfTheEmptyText(t *testing.T) {
	gets(t, "", 0, 0, 0)
	for n := 1; n < 8; n++ {
		getsNot(t, "", 0, n)
	}
	getsNot(t, "", 1, 0)
	getsNot(t, "", -1, 0)
	getsNot(t, "", -1, 1)
}

func TestGetOfATextOfJustNBytes(t *testing.T) {
	s := "\x81\x82\x83\x84\x85\x86\x87\x88"
	for n := range 8 {
		gets(t, s[:n], 0, n, plainGet(s[:n]))
		gets(t, s[:n+1], 0, n, plainGet(s[:n]))
		gets(t, s[:n+1], 1, n, plainGet(s[1:n+1]))
		getsNot(t, s[:n], 1, n)
		if n > 0 {
			getsNot(t, s[:n-1], 0, n)
		}
	}
}

// P3.1: Pad

func TestPad(t *testing.T) {
	for _, s := range []string{"", "a", "ab", "béguinage", "\xff\xfe", "\x01", " "} {
		for n := range 300 {
			if n >= len(s) {
				pads(t, s, n)
			} else {
				padsNot(t, s, n)
			}
		}
	}
}

func TestPadToJustTheTextsLength(t *testing.T) {
	for _, length := range []int{0, 1, 2, 255, 256, 257, 5000} {
		s := strings.Repeat("x", length)
		pads(t, s, length)
		pads(t, s, length+1)
		padsNot(t, s, length-1)
	}
}

func TestPadBelowNought(t *testing.T) {
	for _, n := range []int{-1, -2, math.MinInt} {
		padsNot(t, "", n)
		padsNot(t, "ab", n)
		padsNot(t, "\x00", n)
	}
}

func TestPadRefusesAByteNought(t *testing.T) {
	for _, s := range []string{"\x00", "\x00\x00", "\x00ab", "a\x00b", "ab\x00", "a\x00\x00b", "\x00a\x00"} {
		for _, n := range []int{len(s) - 1, len(s), len(s) + 1, 256, longest, longest + 1} {
			padsNot(t, s, n)
		}
	}
}

func TestPadAtItsLongest(t *testing.T) {
	if longest != 1<<22 {
		t.Fatalf("longest: %d", longest)
	}
	for _, s := range []string{"", "a", strings.Repeat("y", longest-1), strings.Repeat("y", longest)} {
		pads(t, s, longest)
		for _, n := range []int{longest + 1, longest + 2, 2 * longest, math.MaxInt} {
			padsNot(t, s, n)
		}
	}
	pads(t, "a", longest-1)
	padsNot(t, strings.Repeat("y", longest+1), longest)
	padsNot(t, strings.Repeat("y", longest+1), longest+1)
}

// P3.1: Cut

func TestCut(t *testing.T) {
	for _, s := range []string{"", "a", "ab", "béguinage", "\xff\xfe", "\x01", " ", "0", "a 0"} {
		for _, behind := range []int{0, 1, 2, 7, 300} {
			cuts(t, s+strings.Repeat("\x00", behind), s)
		}
	}
}

func TestCutBytesNoughtAlone(t *testing.T) {
	for _, length := range []int{0, 1, 2, 3, 256, longest, longest + 1} {
		cuts(t, strings.Repeat("\x00", length), "")
	}
}

func TestCutRefusesAByteNoughtAhead(t *testing.T) {
	for _, s := range []string{"\x00a", "\x00\x00a", "a\x00b", "a\x00\x00b", "a\x00b\x00", "\x00a\x00\x00", "ab\x00\xff", "\x00\x01"} {
		cutsNot(t, s)
	}
	cutsNot(t, strings.Repeat("x", 1000)+"\x00y")
	cutsNot(t, "\x00"+strings.Repeat("x", 1000))
}

// There is no longest text for Cut, as there is one for Pad.
func TestCutALongText(t *testing.T) {
	s := strings.Repeat("z", longest+1)
	cuts(t, s, s)
	cuts(t, s+"\x00", s)
	cutsNot(t, s+"\x00z")
}

func TestCutEachTextOfThreeBytes(t *testing.T) {
	for n := range 27 {
		s := string([]byte{"\x00a\xff"[n%3], "\x00a\xff"[n/3%3], "\x00a\xff"[n/9]})
		want := s
		for strings.HasSuffix(want, "\x00") {
			want = want[:len(want)-1]
		}
		if strings.ContainsRune(want, 0) {
			cutsNot(t, s)
		} else {
			cuts(t, s, want)
		}
	}
}

// P3.2

func TestWhatIsPutIsGot(t *testing.T) {
	for _, v := range numbers() {
		for n := range 8 {
			gets(t, bin.Put(v, n), 0, n, rest(v, n))
			gets(t, "ab"+bin.Put(v, n)+"cd", 2, n, rest(v, n))
		}
	}
}

func TestWhatIsGotIsPut(t *testing.T) {
	r := rand.New(rand.NewSource(33))
	for range 2000 {
		s := text(r, r.Intn(8))
		v, ok := bin.Get(s, 0, len(s))
		if !ok {
			t.Fatalf("Get(%q): false", s)
		}
		puts(t, v, len(s), s)
	}
}

func TestNumbersPutInARowAreGot(t *testing.T) {
	r := rand.New(rand.NewSource(34))
	for range 200 {
		var s string
		var want, at, long []int
		for range 20 {
			n := r.Intn(8)
			v := rest(r.Int(), n)
			want, at, long = append(want, v), append(at, len(s)), append(long, n)
			s += bin.Put(v, n)
		}
		for i, v := range want {
			gets(t, s, at[i], long[i], v)
		}
	}
}

func TestWhatIsPaddedIsCut(t *testing.T) {
	r := rand.New(rand.NewSource(35))
	for range 500 {
		s := strings.ReplaceAll(text(r, r.Intn(300)), "\x00", "\x01")
		padded, ok := bin.Pad(s, len(s)+r.Intn(300))
		if !ok {
			t.Fatalf("Pad(%.20q): false", s)
		}
		cuts(t, padded, s)
	}
}
