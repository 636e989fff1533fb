package leaf_test

import (
	"fmt"
	"math"
	"math/rand"
	"slices"
	"strings"
	"testing"

	"beguinage/api"
	"beguinage/leaf"
)

const (
	each      = 8
	nameBytes = 26
	nodes     = 255
	allBytes  = 256
	// perPlace is how many bytes a place has: its name's, its node's, 5 more.
	perPlace = 32
)

// none is an empty place.
var none api.Named

func named(name string, node int) api.Named { return api.Named{Name: name, Node: node} }

func zeros(many int) string { return strings.Repeat("\x00", many) }

// longest is a name of the most bytes, all of them alike.
func longest(c string) string { return strings.Repeat(c, nameBytes) }

// with is eight empty places, but for those of p from a place on.
func with(at int, p ...api.Named) []api.Named {
	l := make([]api.Named, each)
	copy(l[at:], p)
	return l
}

// full is eight places, each with a name of its own.
func full() []api.Named {
	return []api.Named{
		named("a", 1), named("b.c", 2), named(longest("z"), nodes), named("A", 254),
		named("...", 33), named("!", 128), named("~", 127), named("readme.txt", 8),
	}
}

// plainPlace is a place's bytes, one by one as P11.1 says them.
func plainPlace(p api.Named) string {
	var b [perPlace]byte
	copy(b[:nameBytes], p.Name)
	b[nameBytes] = byte(p.Node)
	return string(b[:])
}

func plainBlock(l []api.Named) string {
	s := ""
	for _, p := range l {
		s += plainPlace(p)
	}
	return s
}

// plainName is P4.1's rule.
func plainName(s string) bool {
	if len(s) < 1 || len(s) > nameBytes || s == "." || s == ".." {
		return false
	}
	for at := range len(s) {
		if s[at] < 33 || s[at] > 126 || s[at] == '/' {
			return false
		}
	}
	return true
}

// plainMayBe is P11.1's rule of what Put takes.
func plainMayBe(l []api.Named) bool {
	times := map[string]int{}
	for _, p := range l {
		if p == none {
			continue
		}
		times[p.Name]++
		if !plainName(p.Name) || p.Node < 1 || p.Node > nodes || times[p.Name] > 1 {
			return false
		}
	}
	return len(l) == each
}

// wrongNames are names that may not be.
func wrongNames() []string {
	return []string{
		".", "..", "/", "a/b", "/a", "a/", " ", "a b", " a", "a ", "\x7f", "a\x7f", "\x1f", "\n", "a\tb",
		"\x00", "a\x00", "\x00a", "a\x00b", "\x80", "\xff", "a\xff", "é", "aé", "\u2028",
		longest("z") + "z", longest("z") + "\x00", longest("z") + zeros(5), longest("z")[1:] + "/", longest("z")[2:] + "é",
		strings.Repeat("z", perPlace), strings.Repeat("z", allBytes), strings.Repeat("z", 100000),
	}
}

// wrongNodes are no nodes; the lowest byte of some of them is one.
func wrongNodes() []int {
	return []int{
		0, -1, -2, -254, -255, -256, -257, -511, math.MinInt32, math.MinInt, math.MinInt + 1,
		256, 257, 258, 511, 512, 513, 1 << 16, 1<<16 + 1, 1 << 32, 1<<32 + 1, 1<<56 + 1, math.MaxInt32, math.MaxInt - 1, math.MaxInt,
	}
}

func TestLimitsThatTheTestsWriteOut(t *testing.T) {
	if leaf.Each != each || api.MaxName != nameBytes || api.MaxNodes != nodes || api.Block != allBytes || perPlace*each != allBytes {
		t.Error("the limits are others than those that these tests write out")
	}
	// Each has no type of its own: whatever counts places takes it.
	var b byte = leaf.Each
	if b != each {
		t.Error(b)
	}
}

// P11.1: Put

// puts holds what Put answers, and that Get of it is what was put (P11.3).
func puts(t *testing.T, what string, l []api.Named, want string) {
	t.Helper()
	before := slices.Clone(l)
	s, ok := leaf.Put(l)
	if s != want || !ok {
		t.Errorf("%s: Put(%#v): %#v, %v, want %#v", what, l, s, ok, want)
	}
	if !slices.Equal(l, before) {
		t.Errorf("%s: %#v was handed in, and is %#v", what, before, l)
	}
	if got, ok := leaf.Get(want); !slices.Equal(got, l) || !ok {
		t.Errorf("%s: Get(%#v): %#v, %v, want %#v", what, want, got, ok, l)
	}
}

func putsNot(t *testing.T, what string, l []api.Named) {
	t.Helper()
	before := slices.Clone(l)
	if s, ok := leaf.Put(l); s != "" || ok {
		t.Errorf("%s: Put(%#v): %#v, %v", what, l, s, ok)
	}
	if !slices.Equal(l, before) {
		t.Errorf("%s: %#v was handed in, and is %#v", what, before, l)
	}
}

func TestPutTheExample(t *testing.T) {
	puts(t, "eight empty places", make([]api.Named, each), zeros(allBytes))
}

func TestPutWrittenOut(t *testing.T) {
	long := "abcdefghijklmnopqrstuvwxyz"
	l := []api.Named{named("a", 1), none, named("b.c", 3), none, none, named(long, 255), none, named("~!", 128)}
	puts(t, "written out", l, "a"+zeros(25)+"\x01"+zeros(5)+
		zeros(32)+
		"b.c"+zeros(23)+"\x03"+zeros(5)+
		zeros(64)+
		long+"\xff"+zeros(5)+
		zeros(32)+
		"~!"+zeros(24)+"\x80"+zeros(5))
}

func TestPutOfOnePlaceWithAName(t *testing.T) {
	for at := range each {
		for _, name := range []string{"x", "xy", "...", ".x", "x.", longest("x"), longest("x")[1:]} {
			p := named(name, 10*at+7)
			puts(t, "alone", with(at, p), zeros(perPlace*at)+plainPlace(p)+zeros(perPlace*(each-1-at)))
		}
	}
}

func TestPutOfAllPlacesWithANameButSome(t *testing.T) {
	puts(t, "all eight", full(), plainBlock(full()))
	for i := range each {
		for j := range each {
			l := full()
			l[i], l[j] = none, none
			puts(t, "some empty", l, plainBlock(l))
		}
	}
}

func TestPutOfEachNode(t *testing.T) {
	for node := 1; node <= nodes; node++ {
		for _, at := range []int{0, 3, 7} {
			p := named("x", node)
			puts(t, "each node", with(at, p), zeros(perPlace*at)+"x"+zeros(25)+string([]byte{byte(node)})+zeros(5)+zeros(perPlace*(each-1-at)))
		}
	}
}

func TestPutOfEachLengthOfAName(t *testing.T) {
	for many := 1; many <= nameBytes; many++ {
		name := strings.Repeat("n", many)
		puts(t, "each length", with(2, named(name, 9)), zeros(64)+name+zeros(nameBytes-many)+"\x09"+zeros(5+160))
	}
}

func TestPutOfNamesOfEachByte(t *testing.T) {
	for c := range 256 {
		for _, name := range []string{string([]byte{byte(c)}), string([]byte{'a', byte(c)}), string([]byte{byte(c), 'a'}), string([]byte{'a', byte(c), 'b'})} {
			l := with(4, named(name, 1))
			if c >= 33 && c <= 126 && c != '/' && name != "." {
				puts(t, "each byte", l, plainBlock(l))
			} else {
				putsNot(t, "each byte", l)
			}
		}
	}
}

func TestPutOfOneNodeUnderSomeNames(t *testing.T) {
	puts(t, "two names", with(0, named("a", 5), named("b", 5)), plainPlace(named("a", 5))+plainPlace(named("b", 5))+zeros(192))
	l := full()
	for i := range l {
		l[i].Node = nodes
	}
	puts(t, "eight names", l, plainBlock(l))
}

func TestPutOfNamesThatAreNearlyAlike(t *testing.T) {
	long := longest("z")
	l := []api.Named{named(long, 1), named(long[1:], 1), named("y"+long[1:], 1), named(long[1:]+"y", 1), named("a", 1), named("A", 1), named("aa", 1), named("a.", 1)}
	puts(t, "nearly alike", l, plainBlock(l))
}

func TestPutOfFewerAndMoreThanEachPlaces(t *testing.T) {
	putsNot(t, "nil", nil)
	putsNot(t, "none", []api.Named{})
	for many := range 100 {
		if many == each {
			continue
		}
		putsNot(t, "empty places", make([]api.Named, many))
		l := make([]api.Named, many)
		for i := range l {
			l[i] = named(fmt.Sprint("n", i), 1+i)
		}
		putsNot(t, "places with a name", l)
	}
	putsNot(t, "eight places and an empty one", append(full(), none))
	putsNot(t, "eight places and one with a name", append(full(), named("x", 3)))
	putsNot(t, "eight places and one that may not be", append(full(), named("a/b", 0)))
	putsNot(t, "two blocks", make([]api.Named, 2*each))
	putsNot(t, "very many", make([]api.Named, 100000))
}

func TestPutOfNamesThatMayNotBe(t *testing.T) {
	for at := range each {
		for _, name := range wrongNames() {
			putsNot(t, "alone", with(at, named(name, 1)))
			l := full()
			l[at].Name = name
			putsNot(t, "among others", l)
			l[at].Node = 0
			putsNot(t, "with node 0", l)
		}
	}
}

func TestPutOfNodesThatMayNotBe(t *testing.T) {
	for at := range each {
		for _, node := range wrongNodes() {
			putsNot(t, "alone", with(at, named("x", node)))
			l := full()
			l[at].Node = node
			putsNot(t, "among others", l)
		}
	}
}

func TestPutOfANodeWithoutAName(t *testing.T) {
	for at := range each {
		for _, node := range append(wrongNodes(), 1, 2, 128, 255) {
			if node == 0 {
				continue
			}
			putsNot(t, "alone", with(at, named("", node)))
			l := full()
			l[at] = named("", node)
			putsNot(t, "among others", l)
		}
	}
}

func TestPutOfOneNameAtTwoPlaces(t *testing.T) {
	for i := range each {
		for j := range i {
			l := full()
			l[j].Name = l[i].Name
			putsNot(t, "among others, unlike nodes", l)
			l[j].Node = l[i].Node
			putsNot(t, "among others, one node", l)
			for _, name := range []string{"x", longest("x")} {
				l = with(i, named(name, 1))
				l[j] = named(name, 2)
				putsNot(t, "alone, unlike nodes", l)
				l[j] = l[i]
				putsNot(t, "alone, one node", l)
			}
		}
	}
	putsNot(t, "at all eight", slices.Repeat([]api.Named{named("x", 1)}, each))
}

func TestPutOfRandomPlaces(t *testing.T) {
	r := rand.New(rand.NewSource(111))
	taken := 0
	for range 20000 {
		l := make([]api.Named, each)
		for i := range l {
			l[i] = randomPlace(r)
		}
		if plainMayBe(l) {
			puts(t, "random", l, plainBlock(l))
			taken++
		} else {
			putsNot(t, "random", l)
		}
	}
	if taken < 1000 || taken > 19000 {
		t.Errorf("%d of 20000 are taken", taken)
	}
}

// randomPlace is an empty place as often as not; one in some twenty may not
// be.
func randomPlace(r *rand.Rand) api.Named {
	if r.Intn(2) == 0 {
		return none
	}
	name := make([]byte, 1+r.Intn(nameBytes))
	for i := range name {
		name[i] = "ab.-~!"[r.Intn(6)]
	}
	p := named(string(name), 1+r.Intn(nodes))
	switch r.Intn(60) {
	case 0:
		p.Name = wrongNames()[r.Intn(len(wrongNames()))]
	case 1:
		p.Node = wrongNodes()[r.Intn(len(wrongNodes()))]
	case 2:
		p.Name = ""
	}
	return p
}

// P11.1: Get

func getsNot(t *testing.T, what, s string) {
	t.Helper()
	if l, ok := leaf.Get(s); len(l) != 0 || ok {
		t.Errorf("%s: Get(%#v): %#v, %v", what, s, l, ok)
	}
}

// turned is a block with another byte at one place.
func turned(s string, at int, c byte) string {
	return s[:at] + string([]byte{c}) + s[at+1:]
}

func TestGetTheExample(t *testing.T) {
	l, ok := leaf.Get(zeros(allBytes))
	if !slices.Equal(l, make([]api.Named, each)) || !ok {
		t.Errorf("%#v, %v", l, ok)
	}
}

func TestGetOfTextsThatAreNoBlock(t *testing.T) {
	long := strings.Repeat(plainBlock(full()), 3)
	for many := range len(long) {
		if many != allBytes {
			getsNot(t, "another length", long[:many])
			getsNot(t, "another length, bytes 0", zeros(many))
		}
	}
	getsNot(t, "empty", "")
	getsNot(t, "a byte too short", plainBlock(with(0, named("x", 1)))[:allBytes-1])
	getsNot(t, "a byte too long", plainBlock(full())+"\x00")
	getsNot(t, "a byte ahead", "\x00"+plainBlock(full()))
	getsNot(t, "very long", zeros(100000))
	// Bytes are counted, not runes.
	getsNot(t, "256 runes", strings.Repeat("é", allBytes))
}

func TestGetOfSomethingBehindANode(t *testing.T) {
	for _, l := range [][]api.Named{full(), make([]api.Named, each), with(3, named("x", 1))} {
		s := plainBlock(l)
		for place := range each {
			for at := nameBytes + 1; at < perPlace; at++ {
				for _, c := range []byte{1, ' ', '0', 'x', 128, 255} {
					getsNot(t, "behind a node", turned(s, perPlace*place+at, c))
				}
			}
			getsNot(t, "all 5 bytes", s[:perPlace*place+27]+"xxxxx"+s[perPlace*(place+1):])
		}
	}
}

func TestGetOfBytesBehindANamesFirstByteNought(t *testing.T) {
	for place := range each {
		for ends := range nameBytes {
			// The name has so many bytes, and a byte 0 behind them.
			s := plainBlock(with(place, named(strings.Repeat("n", ends), 7)))
			for at := ends + 1; at < nameBytes; at++ {
				for _, c := range []byte{1, ' ', 'n', 255} {
					getsNot(t, "behind the first byte 0", turned(s, perPlace*place+at, c))
				}
			}
		}
		getsNot(t, "no name, no node, a byte further on", turned(zeros(allBytes), perPlace*place+9, 'x'))
	}
}

func TestGetOfANameOrANodeAlone(t *testing.T) {
	for place := range each {
		for _, l := range [][]api.Named{make([]api.Named, each), full()} {
			for _, p := range []api.Named{named("x", 0), named(longest("x"), 0), named("", 1), named("", 128), named("", 255)} {
				l[place] = p
				getsNot(t, "a half of a place", plainBlock(l))
			}
		}
	}
}

func TestGetOfOneNameTwice(t *testing.T) {
	for i := range each {
		for j := range i {
			l := full()
			l[i].Name = l[j].Name
			getsNot(t, "unlike nodes", plainBlock(l))
			l[i] = l[j]
			getsNot(t, "one node", plainBlock(l))
			l = with(i, named("x", 1))
			l[j] = named("x", 2)
			getsNot(t, "alone", plainBlock(l))
		}
	}
}

func TestGetOfBytesThatAreNoName(t *testing.T) {
	for place := range each {
		for _, name := range wrongNames() {
			if len(name) > nameBytes || strings.HasSuffix(name, "\x00") {
				// As bytes that is another name, or no place.
				continue
			}
			getsNot(t, "alone", plainBlock(with(place, named(name, 1))))
			l := full()
			l[place].Name = name
			getsNot(t, "among others", plainBlock(l))
		}
	}
	getsNot(t, "bytes 255", strings.Repeat("\xff", allBytes))
	getsNot(t, "bytes 1", strings.Repeat("\x01", allBytes))
	getsNot(t, "letters", strings.Repeat("a", allBytes))
}

// Of each block that differs in one byte from one that is put, Get answers by
// the plain rule.
func TestGetOfEachByteTurned(t *testing.T) {
	for _, l := range [][]api.Named{full(), make([]api.Named, each), with(5, named("ab", 1), none, named("ac", 2))} {
		s := plainBlock(l)
		for at := range allBytes {
			for c := range 256 {
				getsByTheRule(t, turned(s, at, byte(c)))
			}
		}
	}
}

// plainGet is P11.1's rule: the places that are put as these bytes, if there
// are any.
func plainGet(s string) ([]api.Named, bool) {
	var l []api.Named
	for at := 0; at < len(s); at += perPlace {
		name, _, _ := strings.Cut(s[at:at+nameBytes], "\x00")
		l = append(l, named(name, int(s[at+nameBytes])))
	}
	if !plainMayBe(l) || plainBlock(l) != s {
		return nil, false
	}
	return l, true
}

func getsByTheRule(t *testing.T, s string) {
	t.Helper()
	want, may := plainGet(s)
	got, ok := leaf.Get(s)
	if !slices.Equal(got, want) || ok != may {
		t.Errorf("Get(%#v): %#v, %v, want %#v, %v", s, got, ok, want, may)
	}
	if again, put := leaf.Put(got); ok && (again != s || !put) {
		t.Errorf("Get(%#v), put again: %#v", s, again)
	}
}

func TestGetOfRandomBlocks(t *testing.T) {
	r := rand.New(rand.NewSource(112))
	for range 5000 {
		b := []byte(plainBlock(full()))
		for range r.Intn(4) {
			b[r.Intn(len(b))] = byte(r.Intn(256))
		}
		getsByTheRule(t, string(b))
		r.Read(b)
		getsByTheRule(t, string(b))
	}
}

// P11.2: Find

func finds(t *testing.T, what string, l []api.Named, name string, want int, there bool) {
	t.Helper()
	before := slices.Clone(l)
	if at, ok := leaf.Find(l, name); at != want || ok != there {
		t.Errorf("%s: Find(%#v, %#v): %d, %v, want %d, %v", what, l, name, at, ok, want, there)
	}
	if !slices.Equal(l, before) {
		t.Errorf("%s: %#v was handed in, and is %#v", what, before, l)
	}
}

func TestFindOfEachPlace(t *testing.T) {
	for many := 1; many < 40; many++ {
		l := make([]api.Named, many)
		for i := range l {
			l[i] = named(fmt.Sprint("n", i), 1+i)
		}
		for i, p := range l {
			finds(t, "each place", l, p.Name, i, true)
			alone := make([]api.Named, many)
			alone[i] = p
			finds(t, "alone", alone, p.Name, i, true)
			finds(t, "alone, another name", alone, "x", 0, false)
		}
		finds(t, "the first place", l, "n0", 0, true)
		finds(t, "the last place", l, fmt.Sprint("n", many-1), many-1, true)
		finds(t, "not there", l, fmt.Sprint("n", many), 0, false)
	}
}

func TestFindOfANameThatStandsThereTwice(t *testing.T) {
	l := []api.Named{named("a", 1), named("x", 2), none, named("x", 3), named("b", 4), named("x", 2), named("b", 4)}
	finds(t, "three times", l, "x", 1, true)
	finds(t, "twice, one node", l, "b", 4, true)
	finds(t, "from further behind", l[2:], "x", 1, true)
	finds(t, "the first of all", slices.Repeat([]api.Named{named("x", 1)}, 20), "x", 0, true)
}

func TestFindOfNoPlaces(t *testing.T) {
	for _, name := range append(wrongNames(), "", "a", longest("a")) {
		finds(t, "nil", nil, name, 0, false)
		finds(t, "no places", []api.Named{}, name, 0, false)
		finds(t, "empty places", make([]api.Named, 20), name, 0, false)
	}
}

func TestFindOfTheEmptyName(t *testing.T) {
	finds(t, "an empty place", with(0, named("a", 1), none), "", 0, false)
	finds(t, "an empty place, the first one", with(1, named("a", 1)), "", 0, false)
	finds(t, "all with a name", full(), "", 0, false)
	finds(t, "a node without a name", []api.Named{named("a", 1), named("", 3)}, "", 0, false)
}

func TestFindOfANameThatIsNotThere(t *testing.T) {
	l := full()
	for _, name := range []string{"x", "B", "b", "b.", "b.c.", ".c", "readme", "README.TXT", "..", longest("z")[1:], longest("z") + "z", "a\x00", "a ", " a", zeros(26)} {
		finds(t, "not there", l, name, 0, false)
	}
}

// It is asked of any places: whether they may be a block plays no part.
func TestFindOfPlacesThatMayBeNoBlock(t *testing.T) {
	for _, name := range wrongNames() {
		finds(t, "a name that may not be", []api.Named{named("a", 1), named(name, 2)}, name, 1, true)
	}
	for _, node := range wrongNodes() {
		finds(t, "a node that may not be", []api.Named{none, named("a", node)}, "a", 1, true)
	}
	l := make([]api.Named, 100000)
	l[len(l)-1] = named("x", 1)
	finds(t, "very many", l, "x", 99999, true)
}

// P11.2: Free

func freeIs(t *testing.T, what string, l []api.Named, want int) {
	t.Helper()
	before := slices.Clone(l)
	if at := leaf.Free(l); at != want {
		t.Errorf("%s: Free(%#v): %d, want %d", what, l, at, want)
	}
	if !slices.Equal(l, before) {
		t.Errorf("%s: %#v was handed in, and is %#v", what, before, l)
	}
}

func TestFreeOfNoPlaces(t *testing.T) {
	freeIs(t, "nil", nil, 0)
	freeIs(t, "no places", []api.Named{}, 0)
}

func TestFreeOfPlacesThatAllHaveAName(t *testing.T) {
	for many := range 40 {
		freeIs(t, "all have a name", slices.Repeat([]api.Named{named("x", 1)}, many), many)
	}
	freeIs(t, "a block", full(), 8)
	freeIs(t, "very many", slices.Repeat([]api.Named{named("x", 1)}, 100000), 100000)
}

func TestFreeOfOneEmptyPlace(t *testing.T) {
	for many := 1; many < 40; many++ {
		for at := range many {
			l := slices.Repeat([]api.Named{named("x", 1)}, many)
			l[at] = none
			freeIs(t, "one is empty", l, at)
			for behind := at; behind < many; behind++ {
				l[behind] = none
				freeIs(t, "some behind it, too", l, at)
			}
		}
	}
	freeIs(t, "ahead of others", []api.Named{none, named("a", 1), named("b", 2)}, 0)
	freeIs(t, "between others", []api.Named{named("a", 1), none, named("b", 2), none}, 1)
	freeIs(t, "behind others", []api.Named{named("a", 1), named("b", 2), none}, 2)
}

// An empty place is a zero one: half of one is not.
func TestFreeOfHalvesOfAPlace(t *testing.T) {
	freeIs(t, "a node alone", []api.Named{named("", 3)}, 1)
	freeIs(t, "a node alone, ahead", []api.Named{named("", -1), none}, 1)
	freeIs(t, "a name alone", []api.Named{named("x", 0)}, 1)
	freeIs(t, "a name that may not be", []api.Named{named("\x00", 0), named(".", 0), none}, 2)
}

// P11.2: Trim

// plainTrim is P11.2's rule: the empty places at the end go one by one, and
// come one by one.
func plainTrim(l []api.Named) []api.Named {
	out := slices.Clone(l)
	for len(out) > 0 && out[len(out)-1] == none {
		out = out[:len(out)-1]
	}
	for len(out)%each != 0 {
		out = append(out, none)
	}
	return out
}

func trims(t *testing.T, what string, l []api.Named) {
	t.Helper()
	before, want := slices.Clone(l), plainTrim(l)
	got := leaf.Trim(l)
	if !slices.Equal(got, want) {
		t.Errorf("%s: Trim(%#v): %#v, want %#v", what, l, got, want)
	}
	if !slices.Equal(l, before) {
		t.Errorf("%s: %#v was handed in, and is %#v", what, before, l)
	}
	if again := leaf.Trim(got); !slices.Equal(again, want) {
		t.Errorf("%s: trimmed once more: %#v, want %#v", what, again, want)
	}
}

func TestTrimWrittenOut(t *testing.T) {
	a, b := named("a", 1), named("b", 2)
	for _, x := range []struct {
		what    string
		l, want []api.Named
	}{
		{"nil", nil, nil},
		{"no places", []api.Named{}, nil},
		{"one empty place", []api.Named{none}, nil},
		{"a block of empty places", make([]api.Named, 8), nil},
		{"empty places", make([]api.Named, 20), nil},
		{"one place", []api.Named{a}, []api.Named{a, none, none, none, none, none, none, none}},
		{"one ahead of another", []api.Named{none, b, none}, []api.Named{none, b, none, none, none, none, none, none}},
		{"just a block", []api.Named{a, a, a, a, a, a, a, b}, []api.Named{a, a, a, a, a, a, a, b}},
		{"just a block, and an empty place", []api.Named{a, a, a, a, a, a, a, b, none}, []api.Named{a, a, a, a, a, a, a, b}},
		{"just a block, and a block of empty places", append([]api.Named{a, a, a, a, a, a, a, b}, make([]api.Named, 8)...), []api.Named{a, a, a, a, a, a, a, b}},
		{"one place more", []api.Named{a, a, a, a, a, a, a, a, b}, []api.Named{a, a, a, a, a, a, a, a, b, none, none, none, none, none, none, none}},
		{"none but one place more", append(make([]api.Named, 8), b), append(append(make([]api.Named, 8), b), make([]api.Named, 7)...)},
	} {
		if got := leaf.Trim(x.l); !slices.Equal(got, x.want) {
			t.Errorf("%s: %#v, want %#v", x.what, got, x.want)
		}
		trims(t, x.what, x.l)
	}
}

func TestTrimOfEachLastPlace(t *testing.T) {
	for many := range 42 {
		trims(t, "empty places alone", make([]api.Named, many))
		trims(t, "all have a name", slices.Repeat([]api.Named{named("x", 1)}, many))
		for last := range many {
			l := make([]api.Named, many)
			l[last] = named("x", 1)
			trims(t, "one alone", l)
			for at := range last {
				l[at] = named("y", 2)
			}
			trims(t, "all up to it", l)
		}
	}
}

// An empty place is a zero one: half of one stays.
func TestTrimOfHalvesOfAPlace(t *testing.T) {
	for _, p := range []api.Named{named("", 3), named("", -1), named("x", 0), named("\x00", 0), named("a/b", 1), named("x", 256)} {
		for at := range 20 {
			l := make([]api.Named, 20)
			l[at] = p
			trims(t, "a half of a place", l)
			trims(t, "a half of a place, the last one", l[:at+1])
		}
	}
}

func TestTrimOfRandomPlaces(t *testing.T) {
	r := rand.New(rand.NewSource(113))
	for range 5000 {
		l := make([]api.Named, r.Intn(50))
		for i := range r.Intn(len(l) + 1) {
			l[i] = randomPlace(r)
		}
		trims(t, "random", l)
	}
}

func TestTrimOfVeryManyPlaces(t *testing.T) {
	l := make([]api.Named, 100001)
	trims(t, "empty places", l)
	l[len(l)-1] = named("x", 1)
	trims(t, "the last one has a name", l)
}

// P11.3

func TestWhatIsPutIsGot(t *testing.T) {
	r := rand.New(rand.NewSource(114))
	seen := map[string]string{}
	for range 5000 {
		l := make([]api.Named, each)
		for i := range l {
			for again := true; again; {
				l[i] = randomPlace(r)
				again = !plainMayBe(append(slices.Clone(l[:i+1]), make([]api.Named, each-1-i)...))
			}
		}
		s, ok := leaf.Put(l)
		if !ok || len(s) != allBytes {
			t.Fatalf("Put(%#v): %#v, %v", l, s, ok)
		}
		if got, ok := leaf.Get(s); !slices.Equal(got, l) || !ok {
			t.Errorf("Get of Put(%#v): %#v, %v", l, got, ok)
		}
		// Unlike places have unlike blocks.
		places := fmt.Sprintf("%#v", l)
		if other, there := seen[s]; there && other != places {
			t.Errorf("%s and %s: %#v", other, places, s)
		}
		seen[s] = places
	}
}

// A name that leaves its place is found no more, and its place is the first
// empty one, once the block is put and got.
func TestPlacesThroughABlock(t *testing.T) {
	for at := range each {
		l := full()
		name := l[at].Name
		l[at] = none
		s, _ := leaf.Put(l)
		got, ok := leaf.Get(s)
		if !ok {
			t.Fatalf("Get of Put(%#v)", l)
		}
		freeIs(t, "got", got, at)
		finds(t, "got", got, name, 0, false)
		got[at] = named(name, 99)
		finds(t, "back again", got, name, at, true)
		freeIs(t, "back again", got, each)
	}
}

// The rules for what is handed in, for what is answered, and for what an
// answer hangs on

func TestSpareRoomOfWhatIsHandedInIsNotChanged(t *testing.T) {
	whole := append(full(), named("x", 1), named("y", 2))
	before := slices.Clone(whole)
	for many := range len(whole) + 1 {
		leaf.Put(whole[:many])
		leaf.Find(whole[:many], "x")
		leaf.Free(whole[:many])
		leaf.Trim(whole[:many])
	}
	if !slices.Equal(whole, before) {
		t.Errorf("%#v", whole)
	}
}

// spoil turns all places of a list, those of its spare room too.
func spoil(l []api.Named) {
	l = l[:cap(l)]
	for i := range l {
		l[i] = named("spoilt", -7)
	}
}

func TestWhatGetAnswersIsTheCallersOwn(t *testing.T) {
	s := plainBlock(full())
	one, _ := leaf.Get(s)
	other, _ := leaf.Get(s)
	spoil(one)
	if !slices.Equal(other, full()) {
		t.Errorf("an answer given before: %#v", other)
	}
	puts(t, "asked again", full(), s)
}

func TestWhatTrimAnswersIsTheCallersOwn(t *testing.T) {
	for many := range 30 {
		// What is handed in has spare room behind it.
		whole := slices.Repeat([]api.Named{named("x", 1)}, 40)
		l := whole[:many]
		one, other := leaf.Trim(l), leaf.Trim(l)
		spoil(one)
		if want := plainTrim(l); !slices.Equal(other, want) {
			t.Errorf("an answer given before: %#v, want %#v", other, want)
		}
		if slices.Contains(whole, named("spoilt", -7)) {
			t.Errorf("what was handed in: %#v", whole)
		}
		trims(t, "asked again", l)
	}
}

func TestWhatIsHandedInIsNotKept(t *testing.T) {
	l := full()
	s, _ := leaf.Put(l)
	trimmed := leaf.Trim(l)
	spoil(l)
	if s != plainBlock(full()) || !slices.Equal(trimmed, full()) {
		t.Errorf("%#v, %#v", s, trimmed)
	}
}

func TestAnswersHangOnTheArgumentsAlone(t *testing.T) {
	for range 3 {
		puts(t, "full", full(), plainBlock(full()))
		puts(t, "empty", make([]api.Named, each), zeros(allBytes))
		putsNot(t, "one name twice", slices.Repeat([]api.Named{named("x", 1)}, each))
		getsNot(t, "empty", "")
		finds(t, "the last one", full(), "readme.txt", 7, true)
		finds(t, "not there", full(), "x", 0, false)
		freeIs(t, "full", full(), each)
		trims(t, "full", full())
	}
}
