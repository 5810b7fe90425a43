package ltl_test

import (
	"testing"

	"plumbob/ltl"
)

func TestParam(t *testing.T) {
	want := map[int]int{0: 7, 1: 6, 2: 2, 3: 1, 4: 8, 5: 9}
	for _, i := range []int{lowest, -1 << 32, -7, -6, -2, -1, 0, 1, 2, 3, 4, 5, 6, 7, 8, 9, 16, 1 << 32, 1<<32 + 1, highest} {
		at, isThere := want[i]
		if loc, ok := ltl.Param(i); loc != at || ok != isThere {
			t.Errorf("P16.2: Param(%d): %d, %t", i, loc, ok)
		}
	}
}

func TestKept(t *testing.T) {
	want := map[int]bool{3: true, 5: true, 12: true, 13: true, 14: true, 15: true}
	for loc := -40; loc < 16; loc++ {
		if ltl.Kept(loc) != want[loc] {
			t.Errorf("P16.2: Kept(%d): %t", loc, !want[loc])
		}
	}
	for _, loc := range []int{16, 17, 18, 19, 20, 31, 32, 99, 4999, 5000, 5015, 5016, 65536, 1 << 32, 1<<32 + 4, highest} {
		if !ltl.Kept(loc) {
			t.Errorf("P16.2: Kept(%d): it is not", loc)
		}
	}
	for _, loc := range []int{lowest, lowest + 3, -1 << 32, -1<<32 + 3, -99} {
		if ltl.Kept(loc) {
			t.Errorf("P16.2: Kept(%d): it is", loc)
		}
	}
}

func TestReserved(t *testing.T) {
	for loc := -40; loc < 60; loc++ {
		if want := loc == 4 || loc == 10 || loc == 11; ltl.Reserved(loc) != want {
			t.Errorf("P16.1: Reserved(%d): %t", loc, !want)
		}
	}
	if ltl.Answer != 0 || ltl.FirstSlot != 16 {
		t.Errorf("P16.1: Answer, FirstSlot: %d, %d", ltl.Answer, ltl.FirstSlot)
	}
}
