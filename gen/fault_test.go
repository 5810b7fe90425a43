package gen

import (
	"slices"
	"testing"

	"plumbob/api"
	"plumbob/asm"
	"plumbob/codes"
)

// TestFault has programs that no code with frames comes to: functions as long as they may be, and longer; and what is not well formed.
func TestFault(t *testing.T) {
	long := func(count int) asm.Func {
		return asm.Func{Code: append(slices.Repeat([]asm.Ins{codes.In()}, count-1), codes.Ret())}
	}
	program := func(l ...asm.Func) asm.Prog { return asm.Prog{Funcs: l} }
	for _, c := range []struct {
		what string
		p    asm.Prog
		want api.Errno
	}{
		{"a short one", program(long(1)), api.OK}, {"100000 instructions", program(long(100000)), api.OK}, {"100001 instructions", program(long(100001)), api.ELIMIT},
		{"two of 100000", program(long(100000), long(100000)), api.OK}, {"the second of 100001", program(long(1), long(100001)), api.ELIMIT},
		{"no function", program(), api.EINTERNAL}, {"no instruction", program(long(1), asm.Func{}), api.EINTERNAL}, {"a label that is none", program(asm.Func{Code: []asm.Ins{codes.Jmp(1)}}), api.EINTERNAL}, {"another main", asm.Prog{Funcs: []asm.Func{long(1)}, Main: 1}, api.EINTERNAL}, {"7 parameters", asm.Prog{Funcs: []asm.Func{long(1)}, Params: 7}, api.EINTERNAL},
		{"a global too great", asm.Prog{Globals: []int{65537}, Funcs: []asm.Func{long(1)}}, api.EINTERNAL}, {"a register that is none", program(asm.Func{Code: []asm.Ins{codes.MovR(16, 1), codes.Ret()}}), api.EINTERNAL},
		{"100001 instructions, and another main", asm.Prog{Funcs: []asm.Func{long(100001)}, Main: 1}, api.ELIMIT},
	} {
		if e := fault(c.p); e != c.want {
			t.Errorf("P21.1: %s: %d, want %d", c.what, e, c.want)
		}
	}
}
