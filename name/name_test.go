package name_test

import (
	"math/rand"
	"slices"
	"strings"
	"testing"

	"beguinage/api"
	"beguinage/name"
)

// plainByte is P4.1's rule for one byte.
func plainByte(b byte) bool { return 33 <= b && b <= 126 && b != 47 }

// plainCheck is P4.1's rule for a name, byte by byte.
func plainCheck(s string) bool {
	for i := 0; i < len(s); i++ {
		if !plainByte(s[i]) {
			return false
		}
	}
	return len(s) >= 1 && len(s) <= 26 && s != "." && s != ".."
}

// plainPath is P4.1's rule for a path: all pieces, then each of them.
func plainPath(s string) ([]string, bool) {
	if s == "" {
		return nil, true
	}
	all := strings.Split(s, "/")
	if len(all) > 8 || slices.ContainsFunc(all, func(n string) bool { return !plainCheck(n) }) {
		return nil, false
	}
	return all, true
}

func checks(t *testing.T, s string, want bool) {
	t.Helper()
	if got := name.Check(s); got != want {
		t.Errorf("Check(%.60q): %v, want %v", s, got, want)
	}
}

func paths(t *testing.T, s string, want ...string) {
	t.Helper()
	if got, ok := name.Path(s); !slices.Equal(got, want) || !ok {
		t.Errorf("Path(%.60q): %q, %v, want %q", s, got, ok, want)
	}
}

func pathsNot(t *testing.T, s string) {
	t.Helper()
	if got, ok := name.Path(s); len(got) != 0 || ok {
		t.Errorf("Path(%.60q): %.20q, %v, want none, false", s, got, ok)
	}
}

func joins(t *testing.T, want string, l ...string) {
	t.Helper()
	if got := name.Join(l); got != want {
		t.Errorf("Join(%.60q): %q, want %q", l, got, want)
	}
}

// of is a list of n names of several lengths.
func of(n int) []string {
	l := make([]string, n)
	for i := range l {
		l[i] = strings.Repeat("n", i%api.MaxName+1)
	}
	return l
}

// long are texts of signs of several bytes, and bytes that are no text.
func long() []string {
	return []string{
		"é", "béguinage", "€", "a€", "€a", "日本", "\U0001F3E0", "a\U0001F3E0b", "\u00a0", "\u0080", "\uff0f", "\uff41", "\u2024",
		"\ufffd", "\u0121", "\u017e", "\u4e2f", // their lowest bytes are those of names
		"\x80", "\xff", "a\x80", "\xffa", "a\xc3", "\xc3a", "\xe2\x82", "\xed\xa0\x80", "\xc0\xaf", "\xc1\xa1", "\xf4\x90\x80\x80", "a\xe2\x82b",
	}
}

// P4.1: Check

func TestCheckOrdinaryNames(t *testing.T) {
	for _, s := range []string{"a", "b", "readme.txt", "A-Z_0", "!", "~", `\`, `"`, "'", "*?", "a:b", "%41", "#", "-", "--help", "0"} {
		checks(t, s, true)
	}
}

func TestCheckTheEmptyText(t *testing.T) { checks(t, "", false) }

func TestCheckEachLength(t *testing.T) {
	if api.MaxName != 26 {
		t.Fatalf("MaxName: %d", api.MaxName)
	}
	for _, c := range []string{"x", ".", "!", "~"} {
		for n := range 300 {
			s := strings.Repeat(c, n)
			checks(t, s, n >= 1 && n <= 26 && s != "." && s != "..")
		}
	}
	checks(t, strings.Repeat("x", 1<<20), false)
}

func TestCheckEachByteAsAName(t *testing.T) {
	for n := range 256 {
		b := byte(n)
		checks(t, string([]byte{b}), plainByte(b) && b != '.')
	}
}

func TestCheckEachByteWithinAName(t *testing.T) {
	for n := range 256 {
		c := string([]byte{byte(n)})
		may := plainByte(byte(n))
		for _, s := range []string{"a" + c, c + "a", "ab" + c + "cd", strings.Repeat("x", 25) + c, c + strings.Repeat("x", 25), strings.Repeat("x", 13) + c + strings.Repeat("x", 12)} {
			checks(t, s, may)
		}
		checks(t, c+c, may && c != ".")
		checks(t, c+c+c, may)
		checks(t, strings.Repeat("x", 26)+c, false)
	}
}

func TestCheckEachTwoBytes(t *testing.T) {
	for n := range 1 << 16 {
		s := string([]byte{byte(n >> 8), byte(n)})
		checks(t, s, plainCheck(s))
	}
}

func TestCheckPoints(t *testing.T) {
	checks(t, ".", false)
	checks(t, "..", false)
	for _, s := range []string{"...", "....", ".a", "..a", "a.", "a..", ".a.", "..a..", "a.b", "a..b", ".!", "~."} {
		checks(t, s, true)
	}
}

// Signs of several bytes are no names, whatever their number is; nor are bytes
// that are no sign.
func TestCheckWhatIsNoPlainText(t *testing.T) {
	for _, s := range long() {
		checks(t, s, false)
		checks(t, s+"a", false)
		checks(t, "."+s, false)
	}
	for c := rune(127); c < 0x3000; c++ {
		checks(t, string(c), false)
		checks(t, "a"+string(c), false)
	}
}

// P4.1: Path

func TestPathTheExamples(t *testing.T) {
	paths(t, "a/b", "a", "b")
	pathsNot(t, "a//b")
}

func TestPathTheEmptyText(t *testing.T) { paths(t, "") }

func TestPathOrdinary(t *testing.T) {
	paths(t, "a", "a")
	paths(t, "a/a/a", "a", "a", "a")
	paths(t, "home/anna/readme.txt", "home", "anna", "readme.txt")
	paths(t, "!/~/...", "!", "~", "...")
	paths(t, ".a/a./..a/a..", ".a", "a.", "..a", "a..")
}

func TestPathEachNumberOfNames(t *testing.T) {
	if api.MaxPath != 8 {
		t.Fatalf("MaxPath: %d", api.MaxPath)
	}
	for n := 1; n < 30; n++ {
		s := strings.Join(of(n), "/")
		if n <= 8 {
			paths(t, s, of(n)...)
		} else {
			pathsNot(t, s)
		}
	}
}

func TestPathOfLongestNames(t *testing.T) {
	n := strings.Repeat("x", 26)
	all := slices.Repeat([]string{n}, 8)
	paths(t, strings.Join(all, "/"), all...)
	pathsNot(t, strings.Join(append(all, "x"), "/"))
	pathsNot(t, n+"x")
	pathsNot(t, n+"/x"+n)
	pathsNot(t, "x"+n+"/x")
}

func TestPathStrayBars(t *testing.T) {
	for _, s := range []string{"a", "a/b", strings.Join(of(7), "/"), strings.Join(of(8), "/")} {
		pathsNot(t, "/"+s)
		pathsNot(t, s+"/")
		pathsNot(t, "/"+s+"/")
		pathsNot(t, "//"+s)
		pathsNot(t, s+"//")
		pathsNot(t, s+"//b")
		pathsNot(t, s+"///b")
	}
	for n := 1; n < 20; n++ {
		pathsNot(t, strings.Repeat("/", n))
		pathsNot(t, strings.Repeat("a/", n))
		pathsNot(t, strings.Repeat("/a", n))
	}
	pathsNot(t, strings.Repeat("/", 1<<20))
	pathsNot(t, strings.Repeat("a/", 1<<20))
	pathsNot(t, strings.Repeat("a", 1<<20))
}

func TestPathPoints(t *testing.T) {
	for _, p := range []string{".", ".."} {
		for _, s := range []string{p, p + "/a", "a/" + p, "a/" + p + "/b", p + "/" + p, p + "/"} {
			pathsNot(t, s)
		}
	}
}

// A bad name is found at each place, the last one of the longest path too.
func TestPathABadNameAtEachPlace(t *testing.T) {
	bad := append(long(), "", ".", "..", " ", "a b", "\x00", "a\n", "\x7f", strings.Repeat("x", 27))
	for _, b := range bad {
		for n := 1; n <= 8; n++ {
			for at := range n {
				l := of(n)
				l[at] = b
				if s := strings.Join(l, "/"); s != "" {
					pathsNot(t, s)
				}
				joins(t, "", l...)
			}
		}
	}
}

func TestPathEachByte(t *testing.T) {
	for n := range 256 {
		c := string([]byte{byte(n)})
		switch {
		case c == "/":
			paths(t, "a"+c+"b", "a", "b")
			paths(t, "x/a"+c+"b/y", "x", "a", "b", "y")
		case plainByte(byte(n)):
			paths(t, "a"+c+"b", "a"+c+"b")
			paths(t, "x/a"+c+"b/y", "x", "a"+c+"b", "y")
		default:
			pathsNot(t, "a"+c+"b")
			pathsNot(t, "x/a"+c+"b/y")
		}
	}
}

// All texts of up to seven of these bytes, by the plain rule.
func TestPathEachShortText(t *testing.T) {
	signs := "a./ \xc3"
	texts := []string{""}
	for at := 0; at < len(texts); at++ {
		s := texts[at]
		checks(t, s, plainCheck(s))
		if want, ok := plainPath(s); ok {
			paths(t, s, want...)
		} else {
			pathsNot(t, s)
		}
		for i := 0; i < len(signs) && len(s) < 7; i++ {
			texts = append(texts, s+signs[i:i+1])
		}
	}
}

func TestPathEachAnswerIsNewMemory(t *testing.T) {
	for _, s := range []string{"a", "a/b", "a/b/c"} {
		one, _ := name.Path(s)
		other, _ := name.Path(s)
		for i := range one {
			one[i] = "spoilt"
		}
		one = append(one, "spoilt")
		if strings.Join(other, "/") != s || slices.Contains(other[:cap(other)], "spoilt") {
			t.Errorf("Path(%q) shares its list: %q", s, other)
		}
		paths(t, s, other...)
	}
}

// P4.1: Join

func TestJoin(t *testing.T) {
	joins(t, "a", "a")
	joins(t, "a/b", "a", "b")
	joins(t, "a/b/a", "a", "b", "a")
	joins(t, ".a/.../b..", ".a", "...", "b..")
}

func TestJoinOfNone(t *testing.T) {
	if name.Join(nil) != "" || name.Join([]string{}) != "" || name.Join(make([]string, 0, 8)) != "" {
		t.Error("Join of no names is not empty")
	}
}

func TestJoinEachNumberOfNames(t *testing.T) {
	for n := range 30 {
		want := ""
		if n <= 8 {
			want = strings.Join(of(n), "/")
		}
		joins(t, want, of(n)...)
	}
	joins(t, "", slices.Repeat([]string{"a"}, 1<<16)...)
}

func TestJoinWrongLists(t *testing.T) {
	for _, l := range [][]string{
		{""}, {"", ""}, {"", "a"}, {"a", ""}, {"a", "", "b"},
		{"/"}, {"a/b"}, {"a/"}, {"/a"}, {"a", "b/c"}, {"a/b", "c"},
		{"."}, {".."}, {"a", ".."}, {".", "a"},
		{strings.Repeat("x", 27)}, {"a", strings.Repeat("x", 27)}, {"a b"}, {"a", "\x00"},
	} {
		joins(t, "", l...)
	}
}

func TestJoinLeavesItsList(t *testing.T) {
	whole := []string{"a", "b", "c", "behind"}
	joins(t, "a/b/c", whole[:3]...)
	joins(t, "", append(whole[:3:3], "/")...)
	if !slices.Equal(whole, []string{"a", "b", "c", "behind"}) {
		t.Errorf("Join turned its list: %q", whole)
	}
}

// P4.2

func someText(r *rand.Rand, signs string, most int) string {
	b := make([]byte, r.Intn(most+1))
	for i := range b {
		b[i] = signs[r.Intn(len(signs))]
	}
	return string(b)
}

func TestPathOfJoin(t *testing.T) {
	r := rand.New(rand.NewSource(41))
	good, bad := 0, 0
	for range 20000 {
		l := make([]string, r.Intn(11))
		for i := range l {
			l[i] = someText(r, "abcXYZ019.!~.", 6)
		}
		s := name.Join(l)
		if want, ok := plainPath(strings.Join(l, "/")); ok && slices.Equal(want, l) {
			good++
			paths(t, s, l...)
		} else {
			bad++
			if s != "" {
				t.Errorf("Join(%q): %q, want empty", l, s)
			}
		}
	}
	if good < 1000 || bad < 1000 {
		t.Errorf("%d good lists, %d bad ones: too few", good, bad)
	}
}

func TestJoinOfPath(t *testing.T) {
	r := rand.New(rand.NewSource(42))
	good, bad := 0, 0
	for range 20000 {
		s := someText(r, "abcdefgh/.!~", 14)
		if want, ok := plainPath(s); ok {
			good++
			paths(t, s, want...)
			joins(t, s, want...)
		} else {
			bad++
			pathsNot(t, s)
		}
	}
	if good < 1000 || bad < 1000 {
		t.Errorf("%d good texts, %d bad ones: too few", good, bad)
	}
}
