package rtl

import (
	"testing"

	"plumbob/api"
	"plumbob/state"
	"plumbob/val"
)

// TestScene does instructions by themselves, as other levels have them done, and shows what they show.
func TestScene(t *testing.T) {
	s := state.New([]int64{9}, 1)
	pointers, _ := s.Globals([]int{8, 16})
	home, _ := s.Block(8)
	scene := Scene{State: &s, Pointers: pointers, Registers: make([]api.Val, 4), Home: home}
	for _, i := range []Instr{
		{Op: Nop}, {Op: Const, K: 4, D: 0}, {Op: Copy, A: 0, D: 1}, {Op: Bin, Sub: api.Add, A: 0, B: 1, D: 1}, {Op: Un, Sub: api.Neg, A: 1, D: 1}, {Op: Frame, D: 2, K: 4}, {Op: Store, Sub: 4, A: 2, B: 1}, {Op: Load, Sub: 4, A: 2, D: 0},
		{Op: Global, Sub: 1, K: 8, D: 3}, {Op: Store, Sub: 8, A: 3, B: 2}, {Op: Load, Sub: 8, A: 3, K: 0, D: 2}, {Op: In, D: 1}, {Op: Out, A: 1},
	} {
		if !scene.Do(&i) {
			t.Fatalf("%+v: it ends with %d", i, s.Run.Kind)
		}
	}
	want := []api.Val{val.Of(-8), val.Of(9), val.At(home, 4), val.At(pointers[1].Block, 8)}
	for n, v := range scene.Registers {
		if v != want[n] {
			t.Errorf("register %d: %s, want %s", n, val.Text(v), val.Text(want[n]))
		}
	}
	for _, c := range []struct {
		i        Instr
		isSo, ok bool
	}{{Instr{Op: Cond, Sub: api.Lt, A: 0, B: 1}, true, true}, {Instr{Op: Cond, Sub: api.Eq, A: 0, B: none, K: 8}, false, true}, {Instr{Op: Cond, Sub: api.Lt, A: 2, B: 3}, false, false}} {
		if isSo, ok := scene.Choose(&c.i); isSo != c.isSo || ok != c.ok {
			t.Errorf("%+v: %t, %t", c.i, isSo, ok)
		}
	}
	if leaks := s.Run.Leaks; len(leaks) != 6 || leaks[4] != (api.Leak{Kind: api.Branch, A: 1}) || leaks[5] != (api.Leak{Kind: api.Branch}) || s.Run.Steps != 0 || s.Run.Kind != api.Stuck || len(s.Run.Events) != 2 {
		t.Errorf("it shows %v, as %+v", leaks, s.Run)
	}
	if scene.Do(&Instr{Op: Out, A: 2}) || scene.Do(&Instr{Op: Load, Sub: 8, A: 0, D: 0}) {
		t.Errorf("what has no meaning is done")
	}
}
