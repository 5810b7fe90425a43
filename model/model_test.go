package model

import (
	"fmt"
	"testing"

	"plumbob/api"
	"plumbob/rtl"
)

// TestRun has programs by hand, with and without losses at calls, at each fuel.
func TestRun(t *testing.T) {
	adds := rtl.Prog{Funcs: []rtl.Func{{Regs: 2, Code: []rtl.Instr{{Op: rtl.In, D: 0, S: 1}, {Op: rtl.Bin, Sub: api.Add, A: 0, B: -1, K: 1, D: 1, S: 2}, {Op: rtl.Return, A: 1}}}}}
	calls := rtl.Prog{Funcs: []rtl.Func{
		{Params: []int{1}, Regs: 2, Code: []rtl.Instr{{Op: rtl.Call, Sub: 1, Args: []int{1}, D: 0, S: 1}, {Op: rtl.Out, A: 0, S: 2}, {Op: rtl.Return, A: 1}}},
		{Params: []int{0}, Regs: 1, Code: []rtl.Instr{{Op: rtl.Return, A: 0}}}}}
	first := func(r int) bool { return r == 0 }
	second := func(r int) bool { return r == 1 }
	for _, c := range []struct {
		p     rtl.Prog
		loses func(int) bool
		args  []int64
		fuel  int
		want  string
	}{
		{adds, Keeping, nil, 9, "{1 5 [{1 4}] [] 3}"}, {adds, Keeping, nil, 2, "{2 0 [{1 4}] [] 2}"}, {adds, second, nil, 0, "{2 0 [] [] 0}"},
		{calls, Keeping, []int64{6}, 9, "{1 6 [{2 6}] [{4 1 0}] 4}"}, {calls, first, []int64{6}, 9, "{1 6 [{2 6}] [{4 1 0}] 4}"}, {calls, second, []int64{6}, 9, "{3 0 [{2 6}] [{4 1 0}] 4}"},
	} {
		if got := fmt.Sprint(Run(c.p, c.loses, c.args, []int64{4}, c.fuel)); got != c.want {
			t.Errorf("%swith fuel %d: %s, want %s", rtl.Text(c.p), c.fuel, got, c.want)
		}
	}
}
