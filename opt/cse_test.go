package opt

import (
	"testing"

	"plumbob/api"
	"plumbob/rtl"
)

var csePass = pass{"Cse", Cse}

// between is a row that reckons something twice, with something between; the registers 3 to 7 have any values.
func between(first rtl.Instr, second rtl.Instr, l ...rtl.Instr) rtl.Func {
	code := append([]rtl.Instr{first}, l...)
	return function(row(append(code, second, leave(2))...)...)
}

// kinds are instructions that reckon, and write the register 1.
func kinds() []rtl.Instr {
	return []rtl.Instr{
		un(api.Neg, 3, 1, 0), un(api.Ext32, 3, 1, 0), bin(api.Add, 3, 4, 1, 0), bin(api.Sub, 3, 3, 1, 0), fixed(api.Add, 3, 5, 1, 0), fixed(api.Shl, 3, 0, 1, 0), bin(api.Lt, 3, 4, 1, 0),
		bin(api.Div, 3, 4, 1, 0), bin(api.Mod, 3, 4, 1, 0), fixed(api.Div, 3, 0, 1, 0), fixed(api.Mod, 3, 7, 1, 0), load(8, 3, 16, 1, 0), load(1, 3, -1, 1, 0), global(1, 8, 1, 0), frame(16, 1, 0), frame(0, 1, 0),
	}
}

// to is an instruction that writes another register.
func to(i rtl.Instr, d int) rtl.Instr {
	i.D = d
	return i
}

// TestCseInARow: each kind, reckoned again, with something between that does not matter, and with something that does.
func TestCseInARow(t *testing.T) {
	for _, i := range kinds() {
		shared := func(name string, f rtl.Func) passCase {
			last := len(f.Code) - 2
			return passCase{name, f, changes{last: move(1, 2, last+1)}}
		}
		csePass.comes(t, []passCase{
			shared("at once", between(i, to(i, 2))),
			shared("behind what does not matter", between(i, to(i, 2), nothing(0), input(0, 0), output(3, 0), move(1, 0, 0), constant(2, 9, 0), load(8, 1, 0, 0, 0), test(api.Eq, 3, 0, 0, 7))),
			shared("its register read between", between(i, to(i, 2), output(1, 0), fixed(api.Add, 1, 1, 5, 0))),
			{"the same register again", between(i, i), changes{1: move(1, 1, 2)}},
			{"its register written between", between(i, to(i, 2), constant(1, 7, 0)), nil},
			{"its register written by In", between(i, to(i, 2), input(1, 0)), nil},
			{"its register written by itself", between(i, to(i, 2), move(1, 1, 0)), nil},
			{"alone", function(row(i, leave(1))...), nil},
		})
		for r := range rtl.Uses(i) {
			csePass.comes(t, []passCase{
				{"its operand written between", between(i, to(i, 2), constant(r, 7, 0)), nil},
				{"its operand written by itself", between(i, to(i, 2), move(r, r, 0)), nil},
				{"its operand written by In", between(i, to(i, 2), input(r, 0)), nil},
				{"its operand written by Load", between(i, to(i, 2), load(4, 0, 0, r, 0)), nil},
				{"its operand written by a Call", between(i, to(i, 2), call(r, 0, 0, 0)), nil},
				{"its operand written by what it reckons", between(to(i, r), to(i, 2)), nil},
				{"its operand written by what it reckons, twice", between(to(i, r), to(i, r)), nil},
			})
		}
		isLoad := i.Op == rtl.Load
		for _, c := range []struct {
			name string
			i    rtl.Instr
		}{{"a Store between", store(4, 5, 0, 6, 0)}, {"a Store of what was loaded", store(8, 3, 16, 1, 0)}, {"a Call between", call(-1, 0, 3, 4)}, {"a Call with an answer between", call(0, 0, 3, 4)}} {
			one := shared(c.name, between(i, to(i, 2), c.i))
			if isLoad {
				one.want = nil
			}
			csePass.comes(t, []passCase{one})
		}
	}
}

// TestCseOfUnlikeOnes: what differs in anything is not taken for one another.
func TestCseOfUnlikeOnes(t *testing.T) {
	for n, i := range kinds() {
		for m, other := range kinds() {
			if n != m {
				csePass.comes(t, []passCase{{"unlike ones", between(i, to(other, 2)), nil}})
			}
		}
	}
	csePass.comes(t, []passCase{
		{"operands the other way round", between(bin(api.Sub, 3, 4, 1, 0), bin(api.Sub, 4, 3, 2, 0)), nil},
		{"comparisons the other way round", between(bin(api.Lt, 3, 4, 1, 0), bin(api.Lt, 4, 3, 2, 0)), nil},
		{"other registers", between(bin(api.Add, 3, 4, 1, 0), bin(api.Add, 3, 5, 2, 0)), nil},
		{"another first register", between(fixed(api.Add, 3, 5, 1, 0), fixed(api.Add, 4, 5, 2, 0)), nil},
		{"another K", between(fixed(api.Add, 3, 5, 1, 0), fixed(api.Add, 3, 6, 2, 0)), nil},
		{"a register and the K of its number", between(bin(api.Add, 3, 5, 1, 0), fixed(api.Add, 3, 5, 2, 0)), nil},
		{"the register 0 and none with K 0", between(bin(api.Add, 3, 0, 1, 0), fixed(api.Add, 3, 0, 2, 0)), nil},
		{"another operation", between(fixed(api.Div, 3, 5, 1, 0), fixed(api.Mod, 3, 5, 2, 0)), nil},
		{"another operation on one", between(un(api.Ext8, 3, 1, 0), un(api.Ext32, 3, 2, 0)), nil},
		{"a Un of another", between(un(api.Ext8, 3, 1, 0), un(api.Ext8, 4, 2, 0)), nil},
		{"another chunk", between(load(4, 3, 0, 1, 0), load(1, 3, 0, 2, 0)), nil},
		{"another byte", between(load(4, 3, 0, 1, 0), load(4, 3, 4, 2, 0)), nil},
		{"a Load by another", between(load(4, 3, 0, 1, 0), load(4, 4, 0, 2, 0)), nil},
		{"another global", between(global(0, 8, 1, 0), global(1, 8, 2, 0)), nil},
		{"another byte of a global", between(global(0, 8, 1, 0), global(0, 9, 2, 0)), nil},
		{"another byte of the frame", between(frame(8, 1, 0), frame(9, 2, 0)), nil},
		{"a byte of the frame and of a global", between(frame(8, 1, 0), global(0, 8, 2, 0)), nil},
		{"Consts", between(constant(1, 5, 0), constant(2, 5, 0)), nil},
		{"Copies", between(move(3, 1, 0), move(3, 2, 0)), nil},
		{"Ins", between(input(1, 0), input(2, 0)), nil},
		{"Calls", between(call(1, 0, 3, 4), call(2, 0, 3, 4)), nil},
		{"Outs", between(output(3, 0), output(3, 0)), nil},
		{"Stores", between(store(4, 3, 0, 4, 0), store(4, 3, 0, 4, 0)), nil},
		{"Conds", function(cond(api.Eq, 3, 4, 1, 2), cond(api.Eq, 3, 4, 2, 2), leave(3)), nil},
		{"a comparison and a Cond", function(bin(api.Eq, 3, 4, 1, 1), cond(api.Eq, 3, 4, 2, 2), bin(api.Eq, 3, 4, 2, 3), leave(3)), changes{2: move(1, 2, 3)}},
	})
}

// TestCseTargets: what has the value, when several have it, or others had it.
func TestCseTargets(t *testing.T) {
	add := func(d int) rtl.Instr { return bin(api.Add, 3, 4, d, 0) }
	csePass.comes(t, []passCase{
		{"three times", function(row(add(0), add(1), add(2), leave(2))...), changes{1: move(0, 1, 2), 2: move(0, 2, 3)}},
		{"the first one written over", function(row(add(0), add(1), constant(0, 1, 0), add(2), leave(2))...), changes{1: move(0, 1, 2), 3: move(1, 2, 4)}},
		{"the second one written over", function(row(add(1), add(0), constant(0, 1, 0), add(2), leave(2))...), changes{1: move(1, 0, 2), 3: move(1, 2, 4)}},
		{"both written over", function(row(add(0), add(1), constant(0, 1, 0), constant(1, 1, 0), add(2), leave(2))...), changes{1: move(0, 1, 2)}},
		{"written over, and reckoned again", function(row(add(0), input(0, 0), add(0), add(1), leave(2))...), changes{3: move(0, 1, 4)}},
		{"its own operand last", function(row(add(0), add(3), leave(2))...), changes{1: move(0, 3, 2)}},
		{"its own operand last, and again", function(row(add(0), add(3), add(1), leave(2))...), changes{1: move(0, 3, 2)}},
		{"its own operand last, and twice again", function(row(add(0), add(3), add(1), add(2), leave(2))...), changes{1: move(0, 3, 2), 3: move(1, 2, 4)}},
		{"what hangs on one that is copied", function(row(add(0), add(1), fixed(api.Mul, 0, 2, 2, 0), fixed(api.Mul, 0, 2, 5, 0), leave(2))...), changes{1: move(0, 1, 2), 3: move(2, 5, 4)}},
		{"two that cross", function(row(add(0), load(4, 3, 0, 1, 0), add(2), store(4, 5, 0, 6, 0), load(4, 3, 0, 5, 0), add(6), leave(2))...), changes{2: move(0, 2, 3), 5: move(0, 6, 6)}},
		{"the entry elsewhere", entered(function(leave(2), bin(api.Add, 3, 4, 2, 0), bin(api.Add, 3, 4, 1, 1)), 2), changes{1: move(1, 2, 0)}},
	})
}

// TestCseWhereWaysMeet has branches.
func TestCseWhereWaysMeet(t *testing.T) {
	fork := test(api.Eq, 7, 0, 1, 2)
	add := func(d, s int) rtl.Instr { return bin(api.Add, 3, 4, d, s) }
	get := func(d, s int) rtl.Instr { return load(8, 3, 0, d, s) }
	csePass.comes(t, []passCase{
		{"on both ways", function(fork, add(1, 3), add(1, 3), add(2, 4), leave(2)), changes{3: move(1, 2, 4)}},
		{"on S alone", function(fork, add(1, 3), nothing(3), add(2, 4), leave(2)), nil},
		{"on T alone", function(fork, nothing(3), add(1, 3), add(2, 4), leave(2)), nil},
		{"on both ways, to other registers", function(fork, add(1, 3), add(5, 3), add(2, 4), leave(2)), nil},
		{"on both ways, to several registers", function(fork, add(5, 3), add(1, 6), add(2, 5), move(1, 5, 3), leave(2), add(5, 3)), changes{6: move(1, 5, 3), 3: move(5, 2, 5)}},
		{"ahead of both", function(test(api.Eq, 7, 0, 1, 1), add(1, 2), test(api.Eq, 7, 0, 3, 4), add(2, 5), add(0, 5), leave(2)), changes{3: move(1, 2, 5), 4: move(1, 0, 5)}},
		{"ahead of both, and behind them", function(add(1, 1), test(api.Eq, 7, 0, 2, 3), input(0, 4), output(7, 4), add(2, 5), leave(2)), changes{4: move(1, 2, 5)}},
		{"ahead of both, an operand written on one", function(add(1, 1), test(api.Eq, 7, 0, 2, 3), input(4, 4), output(7, 4), add(2, 5), leave(2)), nil},
		{"ahead of both, its register written on one", function(add(1, 1), test(api.Eq, 7, 0, 2, 3), input(0, 4), input(1, 4), add(2, 5), leave(2)), nil},
		{"ahead of both, written on one, and reckoned again there", function(add(1, 1), test(api.Eq, 7, 0, 2, 3), input(4, 6), output(7, 4), add(2, 5), leave(2), add(1, 4)), changes{4: move(1, 2, 5)}},
		{"a Load, a Store on one way", function(get(1, 1), test(api.Eq, 7, 0, 2, 3), store(8, 3, 0, 7, 4), nothing(4), get(2, 5), leave(2)), nil},
		{"a Load, a Call on one way, and another Load there", function(get(1, 1), test(api.Eq, 7, 0, 2, 3), call(-1, 6), nothing(4), get(2, 5), leave(2), get(1, 4)), changes{4: move(1, 2, 5)}},
		{"nodes to which no way leads: they don't matter, and stay", function(add(1, 1), add(2, 2), leave(2), constant(1, 5, 1), add(1, 5), add(2, 3)), changes{1: move(1, 2, 2)}},
		{"a branch by known ones: both ways count", function(constant(0, 1, 1), test(api.Eq, 0, 1, 2, 3), add(1, 3), add(2, 4), leave(2)), nil},
		{"a branch whose ways are one", function(add(1, 1), test(api.Eq, 7, 0, 2, 2), add(2, 3), leave(2)), changes{2: move(1, 2, 3)}},
	})
}

// TestCseInLoops has loops.
func TestCseInLoops(t *testing.T) {
	add := func(d, s int) rtl.Instr { return bin(api.Add, 3, 4, d, s) }
	csePass.comes(t, []passCase{
		{"ahead of a loop, and in it", function(add(1, 1), test(api.Eq, 7, 0, 4, 2), add(2, 3), output(2, 1), leave(2)), changes{2: move(1, 2, 3)}},
		{"ahead of a loop, and behind it", function(add(1, 1), test(api.Eq, 7, 0, 3, 2), output(2, 1), add(2, 4), leave(2)), changes{3: move(1, 2, 4)}},
		{"ahead of a loop that writes an operand", function(add(1, 1), test(api.Eq, 7, 0, 4, 2), add(2, 3), input(3, 1), leave(2)), nil},
		{"ahead of a loop that writes its register at the end", function(add(1, 1), test(api.Eq, 7, 0, 4, 2), add(2, 3), input(1, 1), leave(2)), nil},
		{"ahead of a loop that writes an operand, and reckons it again", function(add(1, 1), test(api.Eq, 7, 0, 5, 2), add(2, 3), input(3, 4), add(1, 1), leave(2)), changes{2: move(1, 2, 3)}},
		{"in a loop alone", function(test(api.Eq, 7, 0, 2, 1), add(1, 0), leave(2)), nil},
		{"twice in a loop", function(test(api.Eq, 7, 0, 3, 1), add(1, 2), add(2, 0), leave(2)), changes{2: move(1, 2, 0)}},
		{"at a loop's end, and at its beginning", function(nothing(1), add(2, 2), test(api.Eq, 7, 0, 4, 3), add(1, 1), leave(2)), changes{3: move(2, 1, 1)}},
		{"in a loop, and behind it", function(test(api.Eq, 7, 0, 2, 1), add(1, 0), add(2, 3), leave(2)), nil},
		{"in a loop that is gone through once at least, and behind it", function(add(1, 1), test(api.Eq, 7, 0, 2, 0), add(2, 3), leave(2)), changes{2: move(1, 2, 3)}},
		{"the entry, gone back to", function(add(1, 1), add(2, 2), test(api.Eq, 7, 0, 0, 3), leave(2)), changes{1: move(1, 2, 2)}},
		{"the entry, alone in a ring with another", function(add(1, 1), add(1, 0)), changes{1: move(1, 1, 0)}},
		{"a node that goes on at itself", function(add(1, 1), add(1, 1)), changes{1: move(1, 1, 1)}},
		{"the entry that goes on at itself", function(add(1, 0)), nil},
		{"a counter", function(constant(0, 0, 1), fixed(api.Add, 0, 1, 0, 2), fixed(api.Add, 0, 1, 1, 3), test(api.Lt, 0, 9, 1, 4), leave(0)), nil},
		{"a Load in a loop with a Store behind it", function(load(8, 3, 0, 1, 1), load(8, 3, 0, 2, 2), store(8, 3, 0, 2, 3), test(api.Eq, 7, 0, 1, 4), leave(2)), nil},
		{"a Load in a loop with a Store in another loop", function(load(8, 3, 0, 1, 1), load(8, 3, 0, 2, 2), test(api.Eq, 7, 0, 1, 3), store(8, 3, 0, 2, 4), test(api.Eq, 7, 0, 3, 5), leave(2)), changes{1: move(1, 2, 2)}},
	})
}

// TestCseFields: what is new has no other fields, what differs in fields that nobody asks is the same, and what is not new has all that it had.
func TestCseFields(t *testing.T) {
	again := func(i rtl.Instr) rtl.Instr {
		return rtl.Instr{Op: i.Op, Sub: i.Sub, A: i.A, B: i.B, D: 6, K: i.K, S: i.S}
	}
	for _, c := range []struct {
		name  string
		i     rtl.Instr
		other func(i *rtl.Instr)
	}{
		{"Un", strange(rtl.Un, api.Not), func(i *rtl.Instr) { i.B, i.K = -77, 78 }},
		{"Bin", strange(rtl.Bin, api.Mod), func(i *rtl.Instr) { i.K = 79 }},
		{"Load", strange(rtl.Load, 4), func(i *rtl.Instr) { i.B = -80 }},
		{"Global", strange(rtl.Global, 1), func(i *rtl.Instr) { i.A, i.B = 81, -82 }},
	} {
		first, second := c.i, again(c.i)
		c.other(&second)
		second.S, second.T, second.Args = 4, -83, []int{84}
		f := function(nothing(2), nothing(2), first, second, leave(6))
		csePass.comes(t, []passCase{{c.name, f, changes{3: move(3, 6, 4)}}})
	}
	first, second := strange(rtl.Frame, 91), strange(rtl.Frame, -92)
	first.K, second.K, second.A, second.B, second.D, second.S = 8, 8, -1, 93, 6, 4
	csePass.comes(t, []passCase{{"Frame", function(nothing(2), nothing(2), first, second, leave(6)), changes{3: move(3, 6, 4)}}})
}
