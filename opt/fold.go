package opt

import (
	"plumbob/flow"
	"plumbob/rtl"
	"plumbob/val"
)

// none stands where an instruction has no register.
const none = -1

// fold makes constants of what is known in a function: nothing, where it is not reached.
func fold(f rtl.Func) {
	facts, _, _ := flow.Known(f)
	for n, i := range flow.Each(f) {
		f.Code[n] = folded(i, facts[n])
	}
}

// folded is an instruction where facts are known.
func folded(i rtl.Instr, facts []flow.Fact) rtl.Instr {
	result := flow.Result(i, facts)
	switch {
	case i.Op == rtl.Const:
		return i
	case i.Op == rtl.Cond && result.Known:
		return nop(way(i, result.V))
	case result.Known:
		return rtl.Instr{Op: rtl.Const, K: result.V, D: i.D, S: i.S}
	case (i.Op == rtl.Bin || i.Op == rtl.Cond) && i.B != none:
		return narrowed(i, facts[i.A], facts[i.B])
	}
	return i
}

// way is the node at which a branch goes on when its comparison comes to a number.
func way(i rtl.Instr, answer int64) int {
	if answer == 1 {
		return i.S
	}
	return i.T
}

func nop(next int) rtl.Instr { return rtl.Instr{Op: rtl.Nop, S: next} }

// narrowed is an operation on two registers, with a constant in place of the one that is known. If both are, it has no result, and stays as it is.
func narrowed(i rtl.Instr, a, b flow.Fact) rtl.Instr {
	if a.Known == b.Known {
		return i
	}
	if b.Known {
		i.B, i.K = none, b.V
	} else if swapped, ok := val.Swap(i.Sub); ok {
		i.Sub, i.A, i.B, i.K = swapped, i.B, none, a.V
	}
	return i
}
