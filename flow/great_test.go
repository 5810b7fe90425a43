package flow

import (
	"slices"
	"testing"

	"plumbob/api"
	"plumbob/rtl"
)

const most = 5000

func numbers(count int) []int {
	l := make([]int, count)
	for i := range l {
		l[i] = i
	}
	return l
}

// TestGreatRings has as many nodes and registers as there may be, all live everywhere.
func TestGreatRings(t *testing.T) {
	all := numbers(most)
	code := make([]rtl.Instr, most)
	for n := range code {
		code[n] = nop((n + most - 1) % most)
	}
	code[7] = call(-1, 6, all...)
	f := entered(function(most, code...), most-1)
	live, e := Live(f)
	if e != api.OK || slices.ContainsFunc(live, func(l []int) bool { return !slices.Equal(l, all) }) {
		t.Errorf("P14.1: Live of a great ring: %d", e)
	}
	order, _ := Order(f)
	slices.Reverse(order)
	dominators, _ := Dominators(f)
	if !slices.Equal(order, all) || !slices.Equal(dominators[0], all) || !slices.Equal(dominators[most-1], all[most-1:]) || !slices.Equal(dominators[42], all[42:]) {
		t.Errorf("P14.1: Order, Dominators of a great ring")
	}
}

// TestGreatLoss has many that are known, till a loop's end loses each of them by another.
func TestGreatLoss(t *testing.T) {
	const half = most / 2
	var code []rtl.Instr
	for n := range half {
		code = append(code, constant(n, 0, n+1))
	}
	for n := half; n < most-1; n++ {
		code = append(code, fixed(api.Add, n-half+1, 0, n-half, n+1))
	}
	isLast := func(f rtl.Func, want bool) {
		t.Helper()
		facts, reached, e := Known(f)
		if e != api.OK || slices.Contains(reached, false) {
			t.Fatalf("P14.1: Known of a great loop: %d", e)
		}
		for r, fact := range facts[half] {
			if fact.Known != (want && r < half) || fact.V != 0 {
				t.Fatalf("P14.1: Known of a great loop: register %d: %v", r, fact)
			}
		}
	}
	isLast(function(half+1, append(slices.Clone(code), nop(half))...), true)
	isLast(function(half+1, append(slices.Clone(code), input(half-1, half))...), false)
}
