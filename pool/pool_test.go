package pool_test

import (
	"math"
	"math/rand"
	"slices"
	"testing"

	"beguinage/api"
	"beguinage/pool"
	"beguinage/table"
)

// most is how many segments there are at most.
const most = 65536

// having is a house that is, with these segments and nothing else.
func having(segs ...int) api.House { return api.House{State: 1, Segs: segs} }

// rising is the numbers from one on, up to ahead of another, each step-th.
func rising(from, to, step int) []int {
	var l []int
	for v := from; v < to; v += step {
		l = append(l, v)
	}
	return l
}

// plainFree is P12.1's list: each segment is looked for in each house.
func plainFree(segs int, l []api.House) []int {
	if segs > most {
		segs = most
	}
	var free []int
	for seg := 0; seg < segs; seg++ {
		has := func(h api.House) bool { return slices.Contains(h.Segs, seg) }
		if !slices.ContainsFunc(l, has) {
			free = append(free, seg)
		}
	}
	return free
}

// wrongMany are numbers of segments that are never free, with so many free.
func wrongMany(free int) []int {
	return []int{-1, -2, -free, -most, math.MinInt, free + 1, free + 2, most + 1, 1 << 32, 1<<32 + 1, math.MaxInt}
}

func copied(l []api.House) []api.House {
	again := slices.Clone(l)
	for i := range again {
		again[i].Segs = slices.Clone(l[i].Segs)
	}
	return again
}

func unchanged(t *testing.T, what string, l, was []api.House) {
	t.Helper()
	same := func(a, b api.House) bool {
		return a.State == b.State && a.Gen == b.Gen && a.Limit == b.Limit && slices.Equal(a.Segs, b.Segs)
	}
	if !slices.EqualFunc(l, was, same) {
		t.Errorf("%s: the houses became %#v, were %#v", what, l, was)
	}
}

// free asks Free, and Take for as many and for fewer: all hang together.
func free(t *testing.T, what string, segs int, l []api.House, want []int) {
	t.Helper()
	was := copied(l)
	if got := pool.Free(segs, l); !slices.Equal(got, want) {
		t.Errorf("%s: Free(%d) is %v, want %v", what, segs, short(got), short(want))
	}
	for _, n := range []int{0, 1, 2, len(want) / 2, len(want) - 1, len(want)} {
		if n >= 0 && n <= len(want) {
			takes(t, what, segs, l, n, want[:n])
		}
	}
	for _, n := range wrongMany(len(want)) {
		if n < 0 || n > len(want) {
			takesNot(t, what, segs, l, n)
		}
	}
	unchanged(t, what, l, was)
}

func takes(t *testing.T, what string, segs int, l []api.House, n int, want []int) {
	t.Helper()
	if got, ok := pool.Take(segs, l, n); !ok || !slices.Equal(got, want) {
		t.Errorf("%s: Take(%d, %d) is %v, %v, want %v", what, segs, n, short(got), ok, short(want))
	}
}

func takesNot(t *testing.T, what string, segs int, l []api.House, n int) {
	t.Helper()
	if got, ok := pool.Take(segs, l, n); ok || len(got) != 0 {
		t.Errorf("%s: Take(%d, %d) is %v, %v, want none", what, segs, n, short(got), ok)
	}
}

// short is the beginning of a list, for a message.
func short(l []int) []int { return l[:min(len(l), 20)] }

func TestFreeOfTheExample(t *testing.T) {
	free(t, "no houses", 3, nil, []int{0, 1, 2})
	free(t, "an empty list of houses", 3, []api.House{}, []int{0, 1, 2})
}

func TestFreeWrittenOut(t *testing.T) {
	l := []api.House{{}, having(1, 2, 5), {State: 2, Segs: []int{7, 100}}, {}}
	free(t, "three houses", 9, l, []int{0, 3, 4, 6, 8})
	free(t, "three houses", 8, l, []int{0, 3, 4, 6})
	free(t, "three houses", 7, l, []int{0, 3, 4, 6})
	free(t, "three houses", 6, l, []int{0, 3, 4})
	free(t, "three houses", 2, l, []int{0})
}

func TestFreeOfHowManySegments(t *testing.T) {
	for _, segs := range []int{-1, -2, -40, -most, -most - 1, math.MinInt, math.MinInt + 1, 0} {
		free(t, "no houses", segs, nil, nil)
		free(t, "a house", segs, []api.House{having(-1, 0, 1)}, nil)
	}
	free(t, "no houses", 1, nil, []int{0})
	free(t, "no houses", 2, nil, []int{0, 1})
	for _, segs := range []int{255, 256, 257, most - 1, most} {
		free(t, "no houses", segs, nil, rising(0, segs, 1))
	}
}

func TestFreeOfMoreSegmentsThanThereAre(t *testing.T) {
	all := rising(0, most, 1)
	for _, segs := range []int{most + 1, most + 2, 2 * most, 1 << 31, 1 << 32, 1<<32 + 5, 1 << 40, math.MaxInt} {
		free(t, "no houses", segs, nil, all)
		free(t, "a house with the first one beyond", segs, []api.House{having(most)}, all)
		free(t, "a house with the last one", segs, []api.House{having(most - 1)}, all[:most-1])
		free(t, "a house with the first one", segs, []api.House{having(0, most, most+1)}, all[1:])
	}
}

func TestFreeOfHousesWithoutSegments(t *testing.T) {
	free(t, "a house without segments", 4, []api.House{{State: 1, Gen: 1}}, []int{0, 1, 2, 3})
	free(t, "an empty list of segments", 4, []api.House{{State: 1, Segs: []int{}}}, []int{0, 1, 2, 3})
	free(t, "sixteen zero houses", 4, make([]api.House, api.MaxHouses), []int{0, 1, 2, 3})
}

func TestFreeWhereHousesHaveAll(t *testing.T) {
	for _, segs := range []int{1, 2, 8, 40, 100} {
		free(t, "one has all", segs, []api.House{having(rising(0, segs, 1)...)}, nil)
		l := []api.House{having(rising(0, segs, 2)...), having(rising(1, segs, 2)...)}
		free(t, "two have all", segs, l, nil)
		free(t, "two have all but the last one", segs+1, l, []int{segs})
	}
	free(t, "one has all there can be", most, []api.House{having(rising(0, most, 1)...)}, nil)
}

func TestFreeWhereOneIsHad(t *testing.T) {
	const segs = 12
	for seg := range segs {
		want := append(rising(0, seg, 1), rising(seg+1, segs, 1)...)
		free(t, "one is had", segs, []api.House{having(seg)}, want)
	}
}

func TestFreeWhereOneIsNotHad(t *testing.T) {
	const segs = 12
	for seg := range segs {
		l := []api.House{having(rising(0, seg, 1)...), having(rising(seg+1, segs, 1)...)}
		free(t, "one is not had", segs, l, []int{seg})
	}
}

func TestFreeWhereEverySecondOneIsHad(t *testing.T) {
	for _, segs := range []int{1, 2, 3, 10, 11, most} {
		free(t, "the even ones", segs, []api.House{having(rising(0, segs, 2)...)}, rising(1, segs, 2))
		free(t, "the odd ones", segs, []api.House{having(rising(1, segs, 2)...)}, rising(0, segs, 2))
	}
}

func TestFreeOfSegmentsInAnyOrder(t *testing.T) {
	want := []int{0, 2, 4, 6, 7, 9}
	for _, segs := range [][]int{{1, 3, 5, 8}, {8, 5, 3, 1}, {5, 1, 8, 3}, {3, 8, 1, 5}} {
		free(t, "one house", 10, []api.House{having(segs...)}, want)
		free(t, "two houses", 10, []api.House{having(segs[2:]...), having(segs[:2]...)}, want)
	}
}

func TestFreeOfASegmentThatIsHadTwice(t *testing.T) {
	want := []int{0, 2, 3, 5}
	free(t, "one house", 6, []api.House{having(1, 1, 4)}, want)
	free(t, "one house, apart", 6, []api.House{having(1, 4, 1)}, want)
	free(t, "one house, all of them", 6, []api.House{having(4, 1, 4, 1, 1)}, want)
	free(t, "two houses", 6, []api.House{having(1, 4), having(4)}, want)
	free(t, "one house twice", 6, []api.House{having(1, 4), having(1, 4)}, want)
	free(t, "more often than there are segments", 2, []api.House{having(1, 1, 1, 1, 1)}, []int{0})
	free(t, "all, each of them twice", 3, []api.House{having(0, 1, 2), having(2, 1, 0)}, nil)
}

func TestFreeOfSegmentsThatAreNone(t *testing.T) {
	for _, seg := range []int{-1, -2, -8, -most, math.MinInt, 8, 9, 16, 256, most, most + 1, 1 << 32, 1<<32 + 1, math.MaxInt} {
		free(t, "one that is none", 8, []api.House{having(seg)}, rising(0, 8, 1))
		free(t, "one that is none, with others", 8, []api.House{having(3, seg, 0)}, []int{1, 2, 4, 5, 6, 7})
		free(t, "one that is none, with the others", 8, []api.House{having(seg), having(rising(0, 8, 1)...)}, nil)
		free(t, "more that are none than there are segments", 1, []api.House{having(-1, seg, seg, -2, math.MaxInt)}, []int{0})
	}
}

func TestFreeOfHousesOfAnyState(t *testing.T) {
	for _, state := range []int{0, 1, 2, 3, 255, -1, math.MinInt, math.MaxInt} {
		for _, gen := range []int{0, 1, -1, 65536} {
			l := []api.House{{State: state, Gen: gen, Segs: []int{1, 2}}}
			free(t, "a house of any state", 5, l, []int{0, 3, 4})
		}
	}
	l := []api.House{{State: 1, Gen: 1, Limit: api.Limit{Segs: 8, HardNodes: 1}, Segs: []int{4}}}
	free(t, "a house with other segments than its limit says", 5, l, []int{0, 1, 2, 3})
}

func TestFreeOfAnyManyHouses(t *testing.T) {
	for _, many := range []int{1, 2, 15, 16, 17, 100, 1000} {
		l := make([]api.House, many)
		for i := range l {
			l[i] = having(2*i + 1)
		}
		free(t, "each has one", 2*many, l, rising(0, 2*many, 2))
		free(t, "each has one, and one more", 2*many+1, l, rising(0, 2*many+1, 2))
		l = make([]api.House, many)
		l[many-1] = having(1)
		free(t, "the last one has one", 3, l, []int{0, 2})
	}
}

func TestTakeOfEachNumber(t *testing.T) {
	l := []api.House{having(1, 2, 5), {State: 2, Segs: []int{7}}}
	want := []int{0, 3, 4, 6, 8, 9}
	for n := range len(want) + 1 {
		takes(t, "two houses", 10, l, n, want[:n])
	}
	for _, n := range wrongMany(len(want)) {
		takesNot(t, "two houses", 10, l, n)
	}
	for n := len(want) + 1; n <= 12; n++ {
		takesNot(t, "two houses", 10, l, n)
	}
}

func TestTakeWhereNothingIsFree(t *testing.T) {
	for _, l := range [][]api.House{{having(0, 1, 2)}, {having(2), {}, having(1, 0)}} {
		takes(t, "nothing is free", 3, l, 0, nil)
		for _, n := range wrongMany(0) {
			if n != 0 {
				takesNot(t, "nothing is free", 3, l, n)
			}
		}
	}
	for _, segs := range []int{0, -1, math.MinInt} {
		takes(t, "no segments", segs, nil, 0, nil)
		takesNot(t, "no segments", segs, nil, 1)
		takesNot(t, "no segments", segs, nil, -1)
	}
}

func TestTakeOfAllThereCanBe(t *testing.T) {
	all := rising(0, most, 1)
	for _, segs := range []int{most, most + 1, math.MaxInt} {
		takes(t, "no houses", segs, nil, most, all)
		takesNot(t, "no houses", segs, nil, most+1)
		takesNot(t, "a house", segs, []api.House{having(77)}, most)
	}
	takesNot(t, "one fewer", most-1, nil, most)
}

func TestFreeOfRandomHouses(t *testing.T) {
	r := rand.New(rand.NewSource(12))
	for range 2000 {
		segs := r.Intn(80) - 4
		l := randomHouses(r, segs)
		free(t, "random houses", segs, l, plainFree(segs, l))
	}
}

// randomHouses have segments in any order, some twice, some that are none.
func randomHouses(r *rand.Rand, segs int) []api.House {
	l := make([]api.House, r.Intn(20))
	for i := range l {
		l[i] = api.House{State: r.Intn(4), Gen: r.Intn(3)}
		for range r.Intn(10) {
			l[i].Segs = append(l[i].Segs, r.Intn(max(segs, 1)+6)-3)
		}
	}
	return l
}

// TestWhatIsTakenIsNobodysElse founds one house behind the other, each with
// what Take says: P12.2.
func TestWhatIsTakenIsNobodysElse(t *testing.T) {
	r := rand.New(rand.NewSource(122))
	for range 300 {
		segs := 8 + r.Intn(300)
		l := make([]api.House, api.MaxHouses)
		for range 60 {
			at, n := r.Intn(len(l)), api.MinSegs+r.Intn(api.MaxSegs-api.MinSegs+1)
			if l[at].State != 0 {
				l[at] = api.House{}
				continue
			}
			taken, ok := pool.Take(segs, l, n)
			if ok != (len(plainFree(segs, l)) >= n) {
				t.Fatalf("Take(%d, %d) is %v, where %v are free", segs, n, ok, plainFree(segs, l))
			}
			if ok {
				l[at] = api.House{State: 1, Gen: 1, Limit: api.Limit{Segs: n, HardNodes: 1, SoftNodes: 1}, Segs: taken}
			}
			if !table.Check(segs, l) {
				t.Fatalf("of %d segments, the houses may not be: %#v", segs, l)
			}
		}
	}
}

func TestWhatIsTakenIsFreeNoMore(t *testing.T) {
	r := rand.New(rand.NewSource(123))
	for range 500 {
		segs := r.Intn(80)
		l := randomHouses(r, segs)
		was := pool.Free(segs, l)
		n := r.Intn(len(was) + 1)
		taken, _ := pool.Take(segs, l, n)
		if left := pool.Free(segs, append(l, having(taken...))); !slices.Equal(left, was[n:]) {
			t.Errorf("of %v, %v taken: left are %v", was, taken, left)
		}
	}
}

func TestSpareRoomOfWhatIsHandedInIsNothing(t *testing.T) {
	segs := []int{1, 0, 2}
	l := []api.House{having(segs[:1]...), having(4)}
	free(t, "spare room", 5, l[:1], []int{0, 2, 3, 4})
	if !slices.Equal(segs, []int{1, 0, 2}) || !slices.Equal(l[1].Segs, []int{4}) {
		t.Errorf("the spare room became %v, %v", segs, l[1])
	}
}

// spoil writes over a list and over its spare room.
func spoil(l []int) {
	l = l[:cap(l)]
	for i := range l {
		l[i] = -99
	}
}

func TestWhatIsAnsweredIsTheCallersOwn(t *testing.T) {
	l := []api.House{having(1, 2, 5)}
	was := copied(l)
	want := []int{0, 3, 4, 6}
	first := pool.Free(7, l)
	second, _ := pool.Take(7, l, 4)
	third, _ := pool.Take(7, l, 2)
	spoil(pool.Free(7, l))
	few, _ := pool.Take(7, l, 1)
	spoil(few)
	spoil(second)
	if !slices.Equal(first, want) || !slices.Equal(third, want[:2]) {
		t.Errorf("another answer's list is written over: %v, %v", first, third)
	}
	unchanged(t, "answers written over", l, was)
	free(t, "answers written over", 7, l, want)
}

func TestWhatIsHandedInIsNotKept(t *testing.T) {
	segs := []int{1, 2}
	l := []api.House{having(segs...)}
	got := pool.Free(4, l)
	taken, _ := pool.Take(4, l, 2)
	l[0].Segs[0], l[0].Segs[1] = 0, 3
	l[0].Segs = nil
	if want := []int{0, 3}; !slices.Equal(got, want) || !slices.Equal(taken, want) {
		t.Errorf("what was answered became %v, %v", got, taken)
	}
	free(t, "other segments", 4, l, []int{0, 1, 2, 3})
}

func TestAnswersHangOnTheArgumentsAlone(t *testing.T) {
	l := []api.House{having(rising(3, 60, 3)...), having(rising(1, 60, 7)...)}
	want := plainFree(60, l)
	for range 50 {
		free(t, "again", 60, l, want)
		free(t, "none between", 60, nil, rising(0, 60, 1))
		takesNot(t, "none between", 60, l, 60)
	}
}
