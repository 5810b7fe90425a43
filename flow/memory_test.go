package flow

import (
	"fmt"
	"testing"

	"plumbob/api"
	"plumbob/rtl"
)

// roomy is a function whose lists have room behind them, and those of two nodes are one; and what tells all of that.
func roomy() (f rtl.Func, tell func() string) {
	shared := []int{1, 2, 77, 78}
	f = function(3, constant(1, 5, 1), call(-1, 2, shared[:2]...), test(api.Eq, 1, 5, 1, 3), call(0, 4, shared[:2]...), leave(0), nop(1), nop(2))
	f.Code[1].Args, f.Code[3].Args = shared[:2], shared[:2]
	params := []int{0, 2, 79}
	f.Params = params[:2]
	f.Code = f.Code[:6]
	return f, func() string { return fmt.Sprint(f, shared, params, f.Code[:7]) }
}

// spoil changes all numbers of a list, and the room behind them.
func spoil(l []int) {
	l = l[:cap(l)]
	for i := range l {
		l[i] = -99
	}
}

// alone asks that each of some lists has its own memory, the room behind it too: what is done to the others does not change it.
func alone[E any](t *testing.T, what string, lists [][]E, change E) {
	t.Helper()
	for n := range lists {
		before := fmt.Sprint(lists[n])
		for other := range lists {
			if other == n {
				continue
			}
			whole := lists[other][:cap(lists[other])]
			kept := append([]E{}, whole...)
			for i := range whole {
				whole[i] = change
			}
			if fmt.Sprint(lists[n]) != before {
				t.Errorf("R4: %s: the lists of %d and %d share memory", what, n, other)
			}
			copy(whole, kept)
		}
	}
}

// TestNewMemory: what is handed in is not changed, spare room included; what is answered is new memory, each list by itself.
func TestNewMemory(t *testing.T) {
	f, tell := roomy()
	before := tell()
	live, _ := Live(f)
	alone(t, "Live", live, -99)
	facts, reached, _ := Known(f)
	alone(t, "Known", facts, Fact{true, -99})
	dominators, _ := Dominators(f)
	alone(t, "Dominators", dominators, -99)
	order, _ := Order(f)
	answered := fmt.Sprint(live, facts, reached, dominators, order)
	if tell() != before {
		t.Errorf("R4: what is handed in is changed: %s, it was %s", tell(), before)
	}
	// What is done to what was handed in makes no difference.
	spoil(f.Params)
	spoil(f.Code[1].Args)
	clear(f.Code[:cap(f.Code)])
	if fmt.Sprint(live, facts, reached, dominators, order) != answered {
		t.Errorf("R4: what is answered hangs on what was handed in")
	}
	// Nor does what is done to what was answered.
	g, tell := roomy()
	for _, l := range live {
		spoil(l)
	}
	for _, l := range facts {
		clear(l[:cap(l)])
	}
	for _, l := range dominators {
		spoil(l)
	}
	spoil(order)
	clear(reached[:cap(reached)])
	live, _ = Live(g)
	facts, reached, _ = Known(g)
	dominators, _ = Dominators(g)
	order, _ = Order(g)
	if fmt.Sprint(live, facts, reached, dominators, order) != answered || tell() != before {
		t.Errorf("R5: the answers are not the same once more")
	}
}

// TestSolveRoom: what stands behind the lists that Solve is given stays.
func TestSolveRoom(t *testing.T) {
	edges, start := [][2]int{{0, 1}, {5, 5}}, []int{3, 0, 88}
	got, e := Solve(2, edges[:1], start[:2], 3)
	if e != api.OK || fmt.Sprint(got) != "[3 3]" || fmt.Sprint(edges, start) != "[[0 1] [5 5]] [3 0 88]" {
		t.Errorf("R4: Solve: %v (%d), behind it %v, %v", got, e, edges, start)
	}
	spoil(got)
	if fmt.Sprint(start) != "[3 0 88]" {
		t.Errorf("R4: what Solve answers is what it was given")
	}
}
