package opt

import (
	"testing"

	"plumbob/api"
	"plumbob/rtl"
)

var deadPass = pass{"Dead", Dead}

// writing are instructions that write the register 1, and do nothing else.
func writing() []rtl.Instr {
	return append(kinds(), constant(1, 5, 0), move(3, 1, 0), move(1, 1, 0), fixed(api.Add, 1, 1, 1, 0), load(8, 1, 0, 1, 0))
}

// doing are instructions that do something else.
func doing() []rtl.Instr {
	return []rtl.Instr{store(8, 3, 0, 1, 0), call(1, 0, 3, 4), call(-1, 0, 3, 4), input(1, 0), output(3, 0), output(1, 0), nothing(0)}
}

// TestDeadInARow has each instruction where its D is live, and where it is not.
func TestDeadInARow(t *testing.T) {
	for _, i := range writing() {
		deadPass.comes(t, []passCase{
			{"one not read", function(row(i, leave(-1))...), changes{0: nothing(1)}},
			{"one not read, though others are", function(row(i, output(0, 0), leave(2))...), changes{0: nothing(1)}},
			{"one written again", function(row(i, input(1, 0), leave(1))...), changes{0: nothing(1)}},
			{"one written again by a Call", function(row(i, call(1, 0, 3), leave(1))...), changes{0: nothing(1)}},
			{"one that is answered", function(row(i, leave(1))...), nil},
			{"one that goes out", function(row(i, output(1, 0), leave(-1))...), nil},
			{"one that is stored", function(row(i, store(4, 3, 0, 1, 0), leave(-1))...), nil},
			{"one by which is stored", function(row(i, store(4, 1, 0, 3, 0), leave(-1))...), nil},
			{"one that is handed over", function(row(i, call(-1, 0, 3, 1), leave(-1))...), nil},
			{"one that is handed over, and the answer goes there", function(row(i, call(1, 0, 3, 1), leave(-1))...), nil},
			{"one that a branch asks", function(row(i, cond(api.Eq, 3, 1, 0, 0), leave(-1))...), nil},
			{"one read by one not read", function(row(i, fixed(api.Add, 1, 1, 2, 0), leave(-1))...), changes{0: nothing(1), 1: nothing(2)}},
			{"one read by one read", function(row(i, fixed(api.Add, 1, 1, 2, 0), leave(2))...), nil},
			{"one not reached", function(leave(-1), to(i, 2), leave(1)), changes{1: nothing(0)}},
		})
	}
	for _, i := range doing() {
		deadPass.comes(t, []passCase{
			{"what does something else", function(row(i, leave(-1))...), nil},
			{"what does something else, twice", function(row(i, i, leave(1))...), nil},
		})
	}
	deadPass.comes(t, []passCase{
		{"the entry elsewhere", entered(function(leave(2), constant(1, 1, 0), constant(2, 1, 1)), 2), changes{1: nothing(0)}},
		{"branches", function(cond(api.Eq, 0, 1, 1, 1), test(api.Lt, 0, 3, 2, 1), leave(-1)), nil},
	})
}

// TestDeadChains has what is not asked when another one is left out.
func TestDeadChains(t *testing.T) {
	chain := func(last int) rtl.Func {
		return function(row(input(0, 0), fixed(api.Add, 0, 1, 1, 0), load(8, 1, 0, 2, 0), bin(api.Div, 2, 0, 3, 0), move(3, 4, 0), un(api.Neg, 4, 5, 0), leave(last))...)
	}
	all := changes{}
	for n := 1; n < 6; n++ {
		all[n] = nothing(n + 1)
	}
	part := changes{4: nothing(5), 5: nothing(6)}
	deadPass.comes(t, []passCase{
		{"a chain", chain(-1), all},
		{"a chain whose first is asked", chain(0), all},
		{"a chain whose middle is asked", chain(3), part},
		{"a chain whose last is asked", chain(5), nil},
		{"a chain turned round", entered(function(leave(-1), move(2, 1, 0), move(3, 2, 1), move(4, 3, 2)), 3), changes{1: nothing(0), 2: nothing(1), 3: nothing(2)}},
		{"a chain over one register", function(row(input(0, 0), fixed(api.Add, 0, 1, 0, 0), fixed(api.Add, 0, 1, 0, 0), bin(api.Mul, 0, 0, 0, 0), leave(-1))...), changes{1: nothing(2), 2: nothing(3), 3: nothing(4)}},
		{"two operands that another asks, and one that none does", function(row(constant(0, 1, 0), constant(1, 2, 0), bin(api.Add, 0, 1, 2, 0), output(0, 0), leave(-1))...), changes{1: nothing(2), 2: nothing(3)}},
		{"a Copy to itself", function(row(constant(0, 1, 0), move(0, 0, 0), leave(-1))...), changes{0: nothing(1), 1: nothing(2)}},
	})
}

// TestDeadWays has branches: what is live on one of the ways alone stays.
func TestDeadWays(t *testing.T) {
	fork := test(api.Eq, 7, 0, 2, 3)
	deadPass.comes(t, []passCase{
		{"live at S alone", function(constant(1, 5, 1), fork, leave(1), leave(-1)), nil},
		{"live at T alone", function(constant(1, 5, 1), fork, leave(-1), leave(1)), nil},
		{"live at none", function(constant(1, 5, 1), fork, leave(-1), leave(0)), changes{0: nothing(1)}},
		{"written on both", function(constant(1, 5, 1), fork, input(1, 4), call(1, 4), leave(1)), changes{0: nothing(1)}},
		{"written on one", function(constant(1, 5, 1), fork, input(1, 4), nothing(4), leave(1)), nil},
		{"written on one, read on the other by one that is left out", function(constant(1, 5, 1), fork, input(1, 4), move(1, 2, 5), leave(1), leave(-1)), changes{0: nothing(1), 3: nothing(5)}},
		{"a branch of known ones: both ways count", function(constant(1, 5, 1), constant(0, 1, 2), test(api.Eq, 0, 1, 3, 4), leave(-1), leave(1)), nil},
		{"what can't be reached does not read", function(constant(1, 5, 1), leave(-1), output(1, 1)), changes{0: nothing(1)}},
	})
}

// TestDeadLoops has loops: what a loop alone reads of itself is read.
func TestDeadLoops(t *testing.T) {
	deadPass.comes(t, []passCase{
		{"a counter that the loop asks", function(constant(0, 0, 1), test(api.Lt, 0, 9, 2, 3), fixed(api.Add, 0, 1, 0, 1), leave(-1)), nil},
		{"one that only reads itself", function(constant(0, 0, 1), test(api.Lt, 7, 9, 2, 3), fixed(api.Add, 0, 1, 0, 1), leave(-1)), nil},
		{"two that read each other", function(constant(0, 0, 1), test(api.Lt, 7, 9, 2, 4), move(0, 1, 3), move(1, 0, 1), leave(-1)), nil},
		{"one written anew in each round", function(constant(0, 0, 1), test(api.Lt, 7, 9, 2, 4), constant(0, 3, 3), output(0, 1), leave(-1)), changes{0: nothing(1)}},
		{"one that the next round reads", function(test(api.Lt, 7, 9, 1, 3), output(0, 2), constant(0, 3, 0), leave(-1)), nil},
		{"a chain from round to round", function(test(api.Lt, 7, 9, 1, 5), move(1, 2, 2), move(0, 1, 3), fixed(api.Add, 6, 1, 0, 4), nothing(0), leave(-1)), changes{1: nothing(2), 2: nothing(3), 3: nothing(4)}},
		{"a chain from round to round, the last one asked behind", function(test(api.Lt, 7, 9, 1, 5), move(1, 2, 2), move(0, 1, 3), fixed(api.Add, 6, 1, 0, 4), nothing(0), leave(2)), nil},
		{"a loop without an end", function(constant(0, 0, 1), fixed(api.Add, 0, 1, 1, 2), constant(1, 2, 1)), changes{0: nothing(1), 1: nothing(2), 2: nothing(1)}},
		{"a node that goes on at itself", function(constant(0, 1, 0)), changes{0: nothing(0)}},
		{"a node that goes on at itself, and reads itself", function(fixed(api.Add, 0, 1, 0, 0)), nil},
		{"two loops within one another", function(constant(1, 4, 1), test(api.Eq, 7, 0, 6, 2), move(1, 2, 3), test(api.Eq, 6, 0, 5, 4), move(2, 3, 3), move(3, 4, 1), leave(-1)), changes{0: nothing(1), 2: nothing(3), 4: nothing(3), 5: nothing(1)}},
	})
}

// TestDeadFields: a new Nop has no other fields, and what is not new has all that it had.
func TestDeadFields(t *testing.T) {
	subs := map[int]int{rtl.Un: api.Not, rtl.Bin: api.Mod, rtl.Cond: api.Lt, rtl.Load: 4, rtl.Store: 4}
	for op := rtl.Nop; op <= rtl.Out; op++ {
		i := strange(op, subs[op])
		switch op {
		case rtl.Frame:
			i.K = 16
		case rtl.Call:
			i.Args = []int{2}
		}
		var want changes
		switch op {
		case rtl.Const, rtl.Copy, rtl.Un, rtl.Bin, rtl.Load, rtl.Global, rtl.Frame:
			want = changes{1: nothing(3)}
		}
		deadPass.comes(t, []passCase{{"one with any fields", function(nothing(1), i, nothing(3), leave(-1), leave(-1)), want}})
	}
}
