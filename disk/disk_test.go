package disk_test

import (
	"math"
	"math/rand"
	"slices"
	"strings"
	"testing"

	"beguinage/api"
	"beguinage/disk"
)

func full(c string) string { return strings.Repeat(c, api.Block) }

var zero = full("\x00")

// block has no two bytes alike side by side, so that bytes in a wrong place show.
func block(n int) string {
	b := make([]byte, api.Block)
	for i := range b {
		b[i] = byte(i*7 + n)
	}
	return string(b)
}

// says checks what a sector answers, with power.
func says(t *testing.T, d *disk.Disk, i int, now, durable string) {
	t.Helper()
	if s, ok := d.Read(i); s != now || !ok {
		t.Errorf("Read(%d): %.4q %v, want %.4q", i, s, ok, now)
	}
	lasts(t, d, i, durable)
}

func lasts(t *testing.T, d *disk.Disk, i int, durable string) {
	t.Helper()
	if s, ok := d.Durable(i); s != durable || !ok {
		t.Errorf("Durable(%d): %.4q %v, want %.4q", i, s, ok, durable)
	}
}

func writes(t *testing.T, d *disk.Disk, owner, i int, s string) {
	t.Helper()
	if !d.Write(owner, i, s) {
		t.Errorf("Write(%d, %d) is refused", owner, i)
	}
}

func waits(t *testing.T, d *disk.Disk, owner, want int) {
	t.Helper()
	if got := d.Waits(owner); got != want {
		t.Errorf("Waits(%d): %d, want %d", owner, got, want)
	}
}

// P1.1

func TestNewCutsTheNumberOfSectors(t *testing.T) {
	for _, c := range [][2]int{
		{math.MinInt, 1}, {-1, 1}, {0, 1}, {1, 1}, {2, 2}, {48, 48},
		{api.MaxSectors - 1, api.MaxSectors - 1}, {api.MaxSectors, api.MaxSectors},
		{api.MaxSectors + 1, api.MaxSectors}, {math.MaxInt, api.MaxSectors},
	} {
		d := disk.New(c[0])
		if got := d.Sectors(); got != c[1] {
			t.Errorf("New(%d): %d sectors, want %d", c[0], got, c[1])
		}
		says(t, d, 0, zero, zero)
		says(t, d, c[1]-1, zero, zero)
		if _, ok := d.Read(c[1]); ok {
			t.Errorf("New(%d) has a sector %d", c[0], c[1])
		}
	}
}

func TestNewIsNoughtDurableWithPower(t *testing.T) {
	d := disk.New(33)
	for i := range 33 {
		says(t, d, i, zero, zero)
	}
	for owner := 0; owner <= api.MaxHouses; owner++ {
		waits(t, d, owner, 0)
	}
	if d.Down() || d.Writes() != 0 {
		t.Error(d.Down(), d.Writes())
	}
}

func TestWriteWaitsThenIsFlushed(t *testing.T) {
	d := disk.New(10)
	writes(t, d, 1, 0, block(1))
	writes(t, d, 1, 9, block(2))
	writes(t, d, 1, 0, block(3))
	says(t, d, 0, block(3), zero)
	says(t, d, 9, block(2), zero)
	says(t, d, 1, zero, zero)
	says(t, d, 8, zero, zero)
	waits(t, d, 1, 3)
	if !d.Flush(1) {
		t.Error("Flush")
	}
	waits(t, d, 1, 0)
	says(t, d, 0, block(3), block(3))
	says(t, d, 9, block(2), block(2))
	says(t, d, 1, zero, zero)
	if d.Writes() != 3 {
		t.Error(d.Writes())
	}
}

func TestFirstAndLastOwner(t *testing.T) {
	d := disk.New(4)
	for _, owner := range []int{0, api.MaxHouses} {
		s := block(owner)
		writes(t, d, owner, 2, s)
		waits(t, d, owner, 1)
		if !d.Flush(owner) {
			t.Error("Flush", owner)
		}
		says(t, d, 2, s, s)
		if !d.Flush(owner) {
			t.Error("Flush of nothing", owner)
		}
	}
}

func TestRefusedWriteIsNothing(t *testing.T) {
	d := disk.New(4)
	writes(t, d, 1, 1, block(1))
	d.Cut(2)
	for _, c := range []struct {
		owner, i int
		s        string
	}{
		{-1, 0, zero}, {api.MaxHouses + 1, 0, zero}, {math.MinInt, 0, zero}, {math.MaxInt, 0, zero},
		{1, -1, zero}, {1, 4, zero}, {1, math.MinInt, zero}, {1, math.MaxInt, zero},
		{1, 1, ""}, {1, 1, zero[1:]}, {1, 1, zero + "\x00"}, {1, 1, zero + zero},
	} {
		if d.Write(c.owner, c.i, c.s) {
			t.Errorf("Write(%d, %d) of %d bytes is taken", c.owner, c.i, len(c.s))
		}
	}
	if d.Writes() != 1 || d.Down() {
		t.Error(d.Writes(), d.Down())
	}
	waits(t, d, 1, 1)
	says(t, d, 1, block(1), zero)
}

func TestNoSuchSectorNoSuchOwner(t *testing.T) {
	d := disk.New(4)
	writes(t, d, 0, 0, block(1))
	writes(t, d, api.MaxHouses, 3, block(2))
	for _, i := range []int{-1, 4, math.MinInt, math.MaxInt} {
		if s, ok := d.Read(i); s != "" || ok {
			t.Errorf("Read(%d): %.4q %v", i, s, ok)
		}
		if s, ok := d.Durable(i); s != "" || ok {
			t.Errorf("Durable(%d): %.4q %v", i, s, ok)
		}
	}
	for _, owner := range []int{-1, api.MaxHouses + 1, math.MinInt, math.MaxInt} {
		if d.Flush(owner) {
			t.Errorf("Flush(%d)", owner)
		}
		d.Forget(owner)
		waits(t, d, owner, 0)
	}
	waits(t, d, 0, 1)
	waits(t, d, api.MaxHouses, 1)
	says(t, d, 0, block(1), zero)
	says(t, d, 3, block(2), zero)
}

func TestReadIsTheLastThatWaitsOfAllOwners(t *testing.T) {
	d := disk.New(3)
	writes(t, d, 5, 1, block(1))
	writes(t, d, 2, 1, block(2))
	says(t, d, 1, block(2), zero)
	writes(t, d, 5, 1, block(3))
	says(t, d, 1, block(3), zero)
	d.Flush(5)
	says(t, d, 1, block(2), block(3))
	d.Flush(2)
	says(t, d, 1, block(2), block(2))
}

func TestForget(t *testing.T) {
	d := disk.New(3)
	writes(t, d, 1, 0, block(1))
	d.Flush(1)
	writes(t, d, 2, 0, block(2))
	writes(t, d, 1, 0, block(3))
	writes(t, d, 1, 1, block(4))
	d.Forget(1)
	waits(t, d, 1, 0)
	waits(t, d, 2, 1)
	says(t, d, 0, block(2), block(1))
	says(t, d, 1, zero, zero)
	if !d.Flush(1) {
		t.Error("Flush")
	}
	says(t, d, 0, block(2), block(1))
	if d.Writes() != 4 {
		t.Error(d.Writes())
	}
	// the next place of the owner is 0 again
	writes(t, d, 1, 2, block(5))
	d.Back([][]int{nil, {0}})
	says(t, d, 0, block(1), block(1))
	says(t, d, 2, block(5), block(5))
}

func TestForgetWithoutPower(t *testing.T) {
	d := disk.New(2)
	writes(t, d, 1, 0, block(1))
	writes(t, d, 2, 1, block(2))
	d.Cut(0)
	d.Forget(1)
	waits(t, d, 1, 0)
	waits(t, d, 2, 1)
	d.Back([][]int{nil, {0}, {0}})
	says(t, d, 0, zero, zero)
	says(t, d, 1, block(2), block(2))
}

func TestWritesCountsWhatWasNotRefused(t *testing.T) {
	d := disk.New(2)
	for n := 1; n <= 5; n++ {
		writes(t, d, n, 0, block(n))
		d.Write(n, 2, block(n))
		if d.Writes() != n {
			t.Error(n, d.Writes())
		}
	}
	d.Flush(1)
	d.Forget(2)
	d.Cut(0)
	d.Write(3, 0, zero)
	d.Back([][]int{nil, nil, nil, {0}})
	if d.Writes() != 5 {
		t.Error(d.Writes())
	}
}

func TestWithoutPower(t *testing.T) {
	d := disk.New(3)
	writes(t, d, 1, 0, block(1))
	d.Flush(1)
	writes(t, d, 1, 1, block(2))
	d.Cut(0)
	if d.Write(1, 2, block(3)) || d.Flush(1) || d.Flush(0) {
		t.Error("Write, Flush")
	}
	for i := range 3 {
		if s, ok := d.Read(i); s != "" || ok {
			t.Errorf("Read(%d): %.4q %v", i, s, ok)
		}
	}
	lasts(t, d, 0, block(1))
	lasts(t, d, 1, zero)
	waits(t, d, 1, 1)
	if d.Sectors() != 3 || d.Writes() != 2 {
		t.Error(d.Sectors(), d.Writes())
	}
}

// P1.2

func TestCutBehindWrites(t *testing.T) {
	for n := range 5 {
		d := disk.New(9)
		writes(t, d, 1, 0, zero)
		d.Cut(n)
		for k := range n {
			if d.Down() {
				t.Error("too early", n, k)
			}
			if d.Write(1, 9, zero) { // refused: it does not count
				t.Error("taken", n, k)
			}
			writes(t, d, k, 0, block(k))
		}
		if !d.Down() {
			t.Error("too late", n)
		}
		if d.Write(0, 0, zero) || d.Writes() != n+1 {
			t.Error("behind it", n)
		}
	}
}

func TestCutCountsNoFlushAndEveryOwner(t *testing.T) {
	d := disk.New(4)
	d.Cut(2)
	writes(t, d, 1, 1, block(1))
	d.Flush(1)
	d.Forget(1)
	d.Read(1)
	if d.Down() {
		t.Error("too early")
	}
	writes(t, d, 2, 1, block(2))
	if !d.Down() {
		t.Error("too late")
	}
	lasts(t, d, 1, block(1))
	// the write behind which the power fails waits, and may be kept
	d.Back([][]int{nil, nil, {0}})
	says(t, d, 1, block(2), block(2))
}

func TestCutTakesThePlaceOfTheOneBefore(t *testing.T) {
	for _, none := range []int{-1, -7, math.MinInt} {
		d := disk.New(1)
		d.Cut(1)
		d.Cut(none)
		for range 9 {
			writes(t, d, 0, 0, zero)
		}
		if d.Down() {
			t.Error(none)
		}
	}
	d := disk.New(1)
	d.Cut(1)
	d.Cut(math.MaxInt)
	writes(t, d, 0, 0, zero)
	writes(t, d, 0, 0, zero)
	d.Cut(1)
	writes(t, d, 0, 0, zero)
	if !d.Down() {
		t.Error("the last Cut holds")
	}
}

func TestCutBringsNoPower(t *testing.T) {
	for _, n := range []int{-1, 0, 1, 5} {
		d := disk.New(1)
		d.Cut(0)
		d.Cut(n)
		if !d.Down() || d.Write(0, 0, zero) {
			t.Error(n)
		}
		d.Back(nil)
		for range 9 {
			writes(t, d, 0, 0, zero)
		}
		if d.Down() {
			t.Error("the Cut is still there", n)
		}
	}
}

func TestBackOfNothing(t *testing.T) {
	for _, keep := range [][][]int{nil, {}, {nil}, {{}, {}, {}}, {{0}}, {{0}, {}}} {
		d := disk.New(2)
		writes(t, d, 1, 0, block(1))
		d.Cut(0)
		d.Back(keep)
		says(t, d, 0, zero, zero)
		waits(t, d, 1, 0)
		if d.Down() {
			t.Error("no power")
		}
	}
}

func TestBackKeepsPlaces(t *testing.T) {
	d := disk.New(8)
	for i := range 8 {
		writes(t, d, 3, i, block(i))
	}
	d.Cut(0)
	d.Back([][]int{nil, nil, nil, {7, 3, 3, 0, -1, 8, math.MinInt, math.MaxInt, 3}})
	for i := range 8 {
		want := zero
		if i == 0 || i == 3 || i == 7 {
			want = block(i)
		}
		says(t, d, i, want, want)
	}
	waits(t, d, 3, 0)
}

func TestBackOfTheFirstAndLastOwnerAndBeyond(t *testing.T) {
	d := disk.New(2)
	writes(t, d, 0, 0, block(1))
	writes(t, d, api.MaxHouses, 1, block(2))
	keep := make([][]int, api.MaxHouses+9)
	for i := range keep {
		keep[i] = []int{0, 1}
	}
	d.Back(keep)
	says(t, d, 0, block(1), block(1))
	says(t, d, 1, block(2), block(2))
}

func TestBackInTheOrderOfAllWrites(t *testing.T) {
	d := disk.New(3)
	writes(t, d, 4, 0, block(1))
	writes(t, d, 2, 0, block(2))
	writes(t, d, 4, 1, block(3))
	writes(t, d, 1, 1, block(4))
	writes(t, d, 4, 1, block(5))
	writes(t, d, 1, 2, block(6))
	writes(t, d, 1, 2, block(7))
	// what keep says first, or twice, is not later for it
	d.Back([][]int{nil, {2, 1, 0, 2}, {0}, nil, {2, 0, 1, 0}})
	says(t, d, 0, block(2), block(2))
	says(t, d, 1, block(5), block(5))
	says(t, d, 2, block(7), block(7))
}

func TestBackKeepsAnEarlierWriteAlone(t *testing.T) {
	d := disk.New(1)
	writes(t, d, 1, 0, block(1))
	writes(t, d, 1, 0, block(2))
	d.Cut(0)
	d.Back([][]int{nil, {0}})
	says(t, d, 0, block(1), block(1))
}

func TestBackPlacesCountWhatWaits(t *testing.T) {
	d := disk.New(3)
	writes(t, d, 1, 0, block(1))
	d.Flush(1)
	writes(t, d, 1, 1, block(2))
	writes(t, d, 2, 0, block(3))
	writes(t, d, 1, 2, block(4))
	d.Back([][]int{nil, {1}})
	says(t, d, 0, block(1), block(1))
	says(t, d, 1, zero, zero)
	says(t, d, 2, block(4), block(4))
}

func TestBackWithPower(t *testing.T) {
	d := disk.New(2)
	writes(t, d, 1, 0, block(1))
	writes(t, d, 2, 1, block(2))
	d.Cut(1)
	d.Back([][]int{nil, {0}})
	says(t, d, 0, block(1), block(1))
	says(t, d, 1, zero, zero)
	waits(t, d, 2, 0)
	for range 9 {
		writes(t, d, 2, 1, block(3))
	}
	if d.Down() {
		t.Error("the Cut is still there")
	}
}

func TestBackLeavesKeepAsItIs(t *testing.T) {
	d := disk.New(2)
	writes(t, d, 1, 0, block(1))
	writes(t, d, 1, 1, block(2))
	keep := [][]int{{5}, {1, 0, 1}}
	d.Back(keep)
	if len(keep) != 2 || !slices.Equal(keep[0], []int{5}) || !slices.Equal(keep[1], []int{1, 0, 1}) {
		t.Error(keep)
	}
}

func TestDisksHaveNothingInCommon(t *testing.T) {
	a, b := disk.New(2), disk.New(2)
	writes(t, a, 1, 0, block(1))
	a.Flush(1)
	writes(t, a, 1, 1, block(2))
	a.Cut(0)
	says(t, b, 0, zero, zero)
	says(t, b, 1, zero, zero)
	waits(t, b, 1, 0)
	if b.Down() || b.Writes() != 0 {
		t.Error(b.Down(), b.Writes())
	}
}

// plain is the disk as the chapter tells it: one list of all that waits.
type plain struct {
	durable []string
	list    []wait
	writes  int
	cut     int
	down    bool
}

type wait struct {
	owner, i int
	s        string
}

func newPlain(n int) *plain {
	p := &plain{cut: -1}
	for range n {
		p.durable = append(p.durable, zero)
	}
	return p
}

func (p *plain) write(owner, i int, s string) bool {
	if p.down || owner < 0 || owner > api.MaxHouses || i < 0 || i >= len(p.durable) || len(s) != api.Block {
		return false
	}
	p.list = append(p.list, wait{owner, i, s})
	p.writes++
	if p.cut > 0 {
		p.setCut(p.cut - 1)
	}
	return true
}

func (p *plain) setCut(n int) {
	p.cut = n
	p.down = p.down || n == 0
}

func (p *plain) read(i int) (string, bool) {
	if p.down {
		return "", false
	}
	s := p.durable[i]
	for _, w := range p.list {
		if w.i == i {
			s = w.s
		}
	}
	return s, true
}

// take takes an owner's writes out; what is done with them is lay's.
func (p *plain) take(owner int, lay bool) {
	var rest []wait
	for _, w := range p.list {
		if w.owner != owner {
			rest = append(rest, w)
		} else if lay {
			p.durable[w.i] = w.s
		}
	}
	p.list = rest
}

func (p *plain) back(keep [][]int) {
	var place [api.MaxHouses + 1]int
	for _, w := range p.list {
		if w.owner < len(keep) && slices.Contains(keep[w.owner], place[w.owner]) {
			p.durable[w.i] = w.s
		}
		place[w.owner]++
	}
	p.list, p.cut, p.down = nil, -1, false
}

func (p *plain) waits(owner int) (n int) {
	for _, w := range p.list {
		if w.owner == owner {
			n++
		}
	}
	return n
}

func alike(t *testing.T, d *disk.Disk, p *plain) {
	t.Helper()
	if d.Down() != p.down || d.Writes() != p.writes {
		t.Fatal(d.Down(), p.down, d.Writes(), p.writes)
	}
	for i := range p.durable {
		s, ok := d.Read(i)
		want, in := p.read(i)
		if s != want || ok != in {
			t.Fatalf("Read(%d): %.4q %v, want %.4q %v", i, s, ok, want, in)
		}
		lasts(t, d, i, p.durable[i])
	}
	for owner := -1; owner <= api.MaxHouses+1; owner++ {
		waits(t, d, owner, p.waits(owner))
	}
}

func someKeep(r *rand.Rand, lists, most int) [][]int {
	keep := make([][]int, r.Intn(lists))
	for o := range keep {
		for range r.Intn(5) {
			keep[o] = append(keep[o], r.Intn(most)-1)
		}
	}
	return keep
}

func TestAsThePlainDisk(t *testing.T) {
	r := rand.New(rand.NewSource(1))
	for range 60 {
		n := 1 + r.Intn(6)
		d, p := disk.New(n), newPlain(n)
		for range 120 {
			owner := r.Intn(api.MaxHouses+3) - 1
			switch k := r.Intn(20); {
			case k < 13:
				i, s := r.Intn(n+2)-1, block(r.Intn(256))
				if d.Write(owner, i, s) != p.write(owner, i, s) {
					t.Fatal("Write", owner, i)
				}
			case k < 15:
				ok := !p.down && owner >= 0 && owner <= api.MaxHouses
				if ok {
					p.take(owner, true)
				}
				if d.Flush(owner) != ok {
					t.Fatal("Flush", owner)
				}
			case k < 16:
				d.Forget(owner)
				p.take(owner, false)
			case k < 18:
				c := r.Intn(12) - 1
				d.Cut(c)
				p.setCut(c)
			default:
				keep := someKeep(r, api.MaxHouses+4, 6)
				d.Back(keep)
				p.back(keep)
			}
			alike(t, d, p)
		}
	}
}

// P1.3

// step is one thing that an owner does to sectors of its own.
type step struct {
	kind, i int
	s       string
}

func someSteps(r *rand.Rand, first, many int) []step {
	var l []step
	for range 30 {
		l = append(l, step{r.Intn(6), first + r.Intn(many), block(r.Intn(256))})
	}
	return l
}

func (x step) do(d *disk.Disk, owner int) bool {
	switch x.kind {
	case 0:
		return d.Flush(owner)
	case 1:
		d.Forget(owner)
		return true
	}
	return d.Write(owner, x.i, x.s)
}

func TestOwnersAreApart(t *testing.T) {
	r := rand.New(rand.NewSource(2))
	const each = 4
	owners := []int{0, 1, 7, api.MaxHouses}
	for range 60 {
		all := disk.New(each * len(owners))
		keep := someKeep(r, api.MaxHouses+2, 9)
		var alone []*disk.Disk
		var todo [][]step
		for k := range owners {
			alone = append(alone, disk.New(all.Sectors()))
			todo = append(todo, someSteps(r, k*each, each))
		}
		same := func() {
			t.Helper()
			for k, o := range owners {
				waits(t, all, o, alone[k].Waits(o))
				for i := k * each; i < (k+1)*each; i++ {
					now, _ := alone[k].Read(i)
					old, _ := alone[k].Durable(i)
					says(t, all, i, now, old)
				}
			}
		}
		for range 100 {
			k := r.Intn(len(owners))
			if len(todo[k]) == 0 {
				continue
			}
			x := todo[k][0]
			todo[k] = todo[k][1:]
			if x.do(all, owners[k]) != x.do(alone[k], owners[k]) {
				t.Fatal(x.kind, owners[k])
			}
			same()
		}
		all.Cut(0)
		all.Back(keep)
		for _, d := range alone {
			d.Back(keep)
		}
		same()
	}
}

func TestWhatOneKeepsIsNothingOfAnother(t *testing.T) {
	for _, keep := range [][][]int{nil, {{0}}, {nil, nil, {0, 1}}, {{0}, nil, {1}}} {
		d := disk.New(4)
		writes(t, d, 0, 0, block(1))
		writes(t, d, 1, 1, block(2))
		writes(t, d, 2, 2, block(3))
		writes(t, d, 2, 3, block(4))
		d.Flush(1)
		d.Forget(0)
		writes(t, d, 1, 1, block(5))
		d.Back(keep)
		says(t, d, 0, zero, zero)
		says(t, d, 1, block(2), block(2))
	}
}
