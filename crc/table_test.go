package crc

import (
	"sync"
	"testing"
)

// afresh is as if nothing was asked yet; and so it is behind the test too.
func afresh(t *testing.T) {
	forget := func() { made, table = sync.Once{}, [256]uint32{} }
	forget()
	t.Cleanup(forget)
}

func sumsOfTheExample() map[string]uint32 {
	return map[string]uint32{
		"Of":      Of("123456789"),
		"More":    More(Of("1234"), "56789"),
		"ByTable": ByTable(Of("1234"), "56789"),
	}
}

func TestOfAndMoreHangOnNoTable(t *testing.T) {
	afresh(t)
	made.Do(func() { table[7] = 1 })
	for call, sum := range sumsOfTheExample() {
		if right := sum == 0xCBF43926; right == (call == "ByTable") {
			t.Errorf("%s by a table that is wrong: %#08x", call, sum)
		}
	}
}

func TestOfAndMoreMakeNoTable(t *testing.T) {
	afresh(t)
	More(Of("1234"), "56789")
	if table != [256]uint32{} {
		t.Error("a table is made")
	}
}

func TestTheTableIsMadeOnce(t *testing.T) {
	afresh(t)
	ByTable(0, "")
	made.Do(func() { t.Error("no table is made by the first call") })
	if table[255] != 0x2D02EF8D {
		t.Errorf("the table's end: %#08x", table[255])
	}
	table[255]++
	ByTable(0, "")
	if table[255] != 0x2D02EF8E {
		t.Error("a table is made by the second call")
	}
}

func TestCallsAtOneTimeAnswerAlike(t *testing.T) {
	afresh(t)
	var wait sync.WaitGroup
	var got [64]map[string]uint32
	for i := range got {
		wait.Go(func() { got[i] = sumsOfTheExample() })
	}
	wait.Wait()
	for i, sums := range got {
		for call, sum := range sums {
			if sum != 0xCBF43926 {
				t.Errorf("%d, %s: %#08x", i, call, sum)
			}
		}
	}
}
