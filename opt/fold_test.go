package opt

import (
	"fmt"
	"strings"
	"testing"

	"plumbob/api"
	"plumbob/rtl"
	"plumbob/trace"
	"plumbob/val"
)

var foldPass = pass{"Fold", Fold}

// TestFoldInARow has what is known behind one another.
func TestFoldInARow(t *testing.T) {
	foldPass.comes(t, []passCase{
		{"the example", function(constant(0, 2, 1), fixed(api.Mul, 0, 3, 1, 2), leave(1)), changes{1: constant(1, 6, 2)}},
		{"one node", function(leave(0)), nil},
		{"a Copy of a known one", function(row(constant(0, 3, 0), move(0, 1, 0), leave(1))...), changes{1: constant(1, 3, 2)}},
		{"a Copy of 0", function(row(constant(0, 0, 0), move(0, 1, 0), leave(1))...), changes{1: constant(1, 0, 2)}},
		{"a Copy of one not known", function(row(input(0, 0), move(0, 1, 0), move(7, 2, 0), leave(1))...), nil},
		{"a Copy to itself", function(row(constant(0, lowest, 0), move(0, 0, 0), move(1, 1, 0), leave(0))...), changes{1: constant(0, lowest, 2)}},
		{"a Un of a known one", function(row(constant(0, 200, 0), un(api.Ext8, 0, 1, 0), leave(1))...), changes{1: constant(1, -56, 2)}},
		{"a Un of one not known", function(row(input(0, 0), un(api.Ext8, 0, 1, 0), leave(1))...), nil},
		{"a Bin of a known one and K", function(row(constant(0, -7, 0), fixed(api.Div, 0, 2, 1, 0), fixed(api.Mod, 0, 2, 2, 0), leave(1))...), changes{1: constant(1, -3, 2), 2: constant(2, -1, 3)}},
		{"a Bin of known ones", function(row(constant(0, 3, 0), constant(1, 4, 0), bin(api.Sub, 0, 1, 2, 0), bin(api.Lt, 0, 1, 3, 0), leave(2))...), changes{2: constant(2, -1, 3), 3: constant(3, 1, 4)}},
		{"a Bin of a known one and itself", function(row(constant(0, highest, 0), bin(api.Add, 0, 0, 1, 0), leave(1))...), changes{1: constant(1, -2, 2)}},
		{"a Bin of one not known and itself", function(row(input(0, 0), bin(api.Sub, 0, 0, 1, 0), bin(api.Eq, 0, 0, 2, 0), leave(1))...), nil},
		{"a Bin of one not known and K", function(row(input(0, 0), fixed(api.Mul, 0, 0, 1, 0), fixed(api.And, 0, 0, 2, 0), leave(1))...), nil},
		{"what is written over what it is reckoned of", function(row(constant(0, 3, 0), fixed(api.Add, 0, 1, 0, 0), bin(api.Mul, 0, 0, 0, 0), leave(0))...), changes{1: constant(0, 4, 2), 2: constant(0, 16, 3)}},
		{"one behind another", function(row(constant(0, 3, 0), move(0, 1, 0), un(api.Neg, 1, 2, 0), bin(api.Add, 2, 0, 3, 0), leave(3))...), changes{1: constant(1, 3, 2), 2: constant(2, -3, 3), 3: constant(3, 0, 4)}},
		{"one that another writes between", function(row(constant(0, 3, 0), input(0, 0), move(0, 1, 0), leave(1))...), nil},
		{"Load, Global, Frame, In, Call over a known one", function(row(constant(0, 3, 0), load(4, 7, 0, 0, 0), move(0, 1, 0), constant(0, 3, 0), global(0, 8, 0, 0), move(0, 1, 0), constant(0, 3, 0), frame(8, 0, 0), move(0, 1, 0), constant(0, 3, 0), input(0, 0), move(0, 1, 0), constant(0, 3, 0), call(0, 0, 0, 1), move(0, 1, 0), leave(1))...), nil},
		{"a Call that drops its answer", function(row(constant(0, 3, 0), call(-1, 0, 0, 0), move(0, 1, 0), leave(1))...), changes{2: constant(1, 3, 3)}},
		{"Load, Store, Call, Out, Return of known ones", function(row(constant(0, 3, 0), constant(1, 8, 0), load(8, 1, 0, 2, 0), store(8, 1, 0, 0, 0), store(8, 7, 0, 0, 0), call(3, 0, 0, 1), output(0, 0), leave(0))...), nil},
		{"parameters", function(row(move(7, 0, 0), bin(api.Add, 6, 7, 1, 0), leave(1))...), nil},
		{"the entry elsewhere", entered(function(leave(0), move(1, 0, 0), constant(1, 4, 1)), 2), changes{1: constant(0, 4, 0)}},
	})
}

// TestFoldWithoutAResult: what chapter 1 says none of stays as it is.
func TestFoldWithoutAResult(t *testing.T) {
	foldPass.comes(t, []passCase{
		{"a division by the constant 0", function(row(constant(0, 3, 0), fixed(api.Div, 0, 0, 1, 0), fixed(api.Mod, 0, 0, 1, 0), leave(1))...), nil},
		{"a division by a register with 0", function(row(constant(0, 3, 0), constant(1, 0, 0), bin(api.Div, 0, 1, 2, 0), bin(api.Mod, 0, 1, 2, 0), leave(2))...), nil},
		{"a division of one not known by 0", function(row(input(0, 0), fixed(api.Div, 0, 0, 1, 0), fixed(api.Mod, 0, 0, 1, 0), leave(1))...), nil},
		{"the least by -1", function(row(constant(0, lowest, 0), fixed(api.Div, 0, -1, 1, 0), fixed(api.Mod, 0, -1, 1, 0), fixed(api.Div, 0, 1, 2, 0), leave(1))...), changes{3: constant(2, lowest, 4)}},
		{"shifts too far", function(row(constant(0, 1, 0), constant(1, 64, 0), bin(api.Shl, 0, 1, 2, 0), fixed(api.Shr, 0, -1, 2, 0), fixed(api.Shl, 0, 63, 2, 0), leave(2))...), changes{4: constant(2, lowest, 5)}},
		{"what is reckoned of none", function(row(constant(0, 1, 0), fixed(api.Div, 0, 0, 1, 0), fixed(api.Mul, 1, 0, 2, 0), move(1, 3, 0), bin(api.Add, 0, 0, 4, 0), leave(2))...), changes{4: constant(4, 2, 5)}},
	})
}

// TestStuckStays: what has no result is Stuck as it was, behind the same leak, and not when it is not come to.
func TestStuckStays(t *testing.T) {
	for _, c := range []struct {
		i    rtl.Instr
		want string
	}{
		{fixed(api.Div, 0, 0, 2, 3), "[{3 6 0}]"}, {bin(api.Div, 0, 1, 2, 3), "[{3 6 0}]"}, {fixed(api.Mod, 0, 0, 2, 3), "[{3 6 0}]"}, {bin(api.Mod, 1, 1, 2, 3), "[{3 0 0}]"},
		{fixed(api.Shl, 0, 64, 2, 3), "[]"}, {fixed(api.Shr, 0, -1, 2, 3), "[]"},
	} {
		for at, want := range map[int]int{2: api.Stuck, 5: api.Halt} {
			p := alone(function(constant(0, 6, 1), constant(1, 0, 4), c.i, leave(2), test(api.Eq, 1, 0, at, 2), leave(0)))
			p.Funcs[0].Params = nil
			for _, how := range []int{asFold, asCse} {
				r, _ := rtl.Run(answered(t, p, []int{how}), nil, nil, 100)
				if r.Kind != want || want == api.Stuck && fmt.Sprint(r.Leaks[len(r.Leaks)-strings.Count(c.want, "{"):]) != c.want {
					t.Errorf("P15.1: %+v, treated as %d: it ends with %d, leaks %v, want %d, %s", c.i, how, r.Kind, r.Leaks, want, c.want)
				}
			}
		}
	}
}

// TestFoldOperands: where one of two registers is known, it is a constant, if the operation has a form for that.
func TestFoldOperands(t *testing.T) {
	swapped := map[int]int{api.Add: api.Add, api.Mul: api.Mul, api.And: api.And, api.Or: api.Or, api.Xor: api.Xor, api.Eq: api.Eq, api.Ne: api.Ne, api.Lt: api.Gt, api.Le: api.Ge, api.Gt: api.Lt, api.Ge: api.Le}
	for sub := api.Add; sub <= api.Ge; sub++ {
		first := bin(sub, 0, 1, 2, 3)
		if other, ok := swapped[sub]; ok {
			first = fixed(other, 1, 5, 2, 3)
		}
		foldPass.comes(t, []passCase{
			{"a Bin whose second is known", function(input(0, 1), constant(1, 5, 2), bin(sub, 0, 1, 2, 3), leave(2)), changes{2: fixed(sub, 0, 5, 2, 3)}},
			{"a Bin whose second is known to be 0", function(input(0, 1), constant(1, 0, 2), bin(sub, 0, 1, 1, 3), leave(2)), changes{2: fixed(sub, 0, 0, 1, 3)}},
			{"a Bin whose first is known", function(constant(0, 5, 1), input(1, 2), bin(sub, 0, 1, 2, 3), leave(2)), changes{2: first}},
			{"a Bin of which none is known", function(input(0, 1), input(1, 2), bin(sub, 0, 1, 2, 3), leave(2)), nil},
		})
		if sub < api.Eq {
			continue
		}
		foldPass.comes(t, []passCase{
			{"a Cond whose second is known", function(input(0, 1), constant(1, 5, 2), cond(sub, 0, 1, 3, 4), leave(2), leave(1)), changes{2: test(sub, 0, 5, 3, 4)}},
			{"a Cond whose first is known", function(constant(0, 5, 1), input(1, 2), cond(sub, 0, 1, 3, 4), leave(2), leave(1)), changes{2: test(swapped[sub], 1, 5, 3, 4)}},
			{"a Cond of which none is known", function(input(0, 1), input(1, 2), cond(sub, 0, 1, 3, 4), test(sub, 0, 3, 4, 4), leave(1)), nil},
		})
	}
}

// TestFoldBranches has branches of known ones, and what they don't reach.
func TestFoldBranches(t *testing.T) {
	foldPass.comes(t, []passCase{
		{"one that goes on at S", function(constant(0, 3, 1), test(api.Gt, 0, 2, 2, 3), leave(0), leave(1)), changes{1: nothing(2)}},
		{"one that goes on at T", function(constant(0, 3, 1), test(api.Lt, 0, 2, 2, 3), leave(0), leave(1)), changes{1: nothing(3)}},
		{"one of two registers, at S", function(constant(0, 3, 1), constant(1, 3, 2), cond(api.Eq, 0, 1, 3, 4), leave(0), leave(1)), changes{2: nothing(3)}},
		{"one of two registers, at T", function(constant(0, 3, 1), constant(1, 3, 2), cond(api.Ne, 0, 1, 3, 4), leave(0), leave(1)), changes{2: nothing(4)}},
		{"one of a known one and itself", function(constant(0, 3, 1), cond(api.Le, 0, 0, 2, 3), leave(0), leave(1)), changes{1: nothing(2)}},
		{"one of one not known and itself", function(cond(api.Eq, 0, 0, 1, 2), leave(0), leave(1)), nil},
		{"one whose ways are one", function(constant(0, 3, 1), test(api.Eq, 0, 3, 2, 2), cond(api.Eq, 6, 7, 3, 3), leave(0)), changes{1: nothing(2)}},
		{"one that goes on at itself", function(constant(0, 3, 1), test(api.Eq, 0, 3, 1, 2), leave(0)), changes{1: nothing(1)}},
		{"ways not reached: they stay", function(constant(0, 3, 1), test(api.Eq, 0, 3, 5, 2), constant(1, 4, 3), fixed(api.Add, 1, 1, 1, 4), move(0, 1, 5), move(0, 2, 6), leave(2)), changes{1: nothing(5), 5: constant(2, 3, 6)}},
		{"nodes to which no way leads: they stay", function(constant(0, 3, 2), move(0, 1, 2), leave(0), test(api.Eq, 0, 3, 1, 2), constant(2, 1, 5), move(2, 3, 2)), nil},
		{"one behind another", function(constant(0, 1, 1), test(api.Eq, 0, 1, 2, 6), constant(1, 2, 3), cond(api.Lt, 1, 0, 6, 4), bin(api.Add, 0, 1, 2, 5), leave(2), leave(0)), changes{1: nothing(2), 3: nothing(4), 4: constant(2, 3, 5)}},
		{"what a way not taken would lose", function(constant(0, 1, 1), test(api.Eq, 0, 1, 3, 2), input(0, 3), move(0, 1, 4), leave(1)), changes{1: nothing(3), 3: constant(1, 1, 4)}},
	})
}

// TestFoldWhereWaysMeet has facts that stay and that are lost.
func TestFoldWhereWaysMeet(t *testing.T) {
	fork := test(api.Eq, 7, 0, 1, 2)
	foldPass.comes(t, []passCase{
		{"the same number", function(fork, constant(0, 7, 3), constant(0, 7, 3), move(0, 1, 4), leave(1)), changes{3: constant(1, 7, 4)}},
		{"unlike numbers", function(fork, constant(0, 7, 3), constant(0, 8, 3), move(0, 1, 4), leave(1)), nil},
		{"a known one and one not known", function(fork, constant(0, 7, 3), input(0, 3), move(0, 1, 4), leave(1)), nil},
		{"one way alone", function(fork, constant(0, 7, 2), move(0, 1, 3), leave(1)), nil},
		{"ways that meet, and part again", function(fork, constant(0, 7, 3), constant(0, 7, 3), fork, leave(1)), nil},
		{"a loop that counts", function(constant(0, 0, 1), test(api.Lt, 0, 4, 2, 3), fixed(api.Add, 0, 1, 0, 1), leave(0)), nil},
		{"a loop in which one stays", function(constant(0, 3, 1), input(1, 2), cond(api.Lt, 1, 0, 3, 4), bin(api.Add, 1, 0, 1, 2), leave(0)), changes{2: test(api.Lt, 1, 3, 3, 4), 3: fixed(api.Add, 1, 3, 1, 2)}},
		{"a loop that gives the same number anew", function(constant(0, 1, 1), test(api.Lt, 7, 0, 2, 3), bin(api.Mul, 0, 0, 0, 1), move(0, 1, 4), leave(1)), changes{2: constant(0, 1, 1), 3: constant(1, 1, 4)}},
		{"a loop that gives another", function(constant(0, 2, 1), test(api.Lt, 7, 0, 2, 3), bin(api.Mul, 0, 0, 0, 1), move(0, 1, 4), leave(1)), nil},
		{"a loop that is never left", function(constant(0, 1, 1), test(api.Eq, 0, 1, 2, 3), output(0, 1), leave(0)), changes{1: nothing(2)}},
		{"a loop that is never begun", function(constant(0, 0, 1), test(api.Ne, 0, 0, 2, 3), constant(0, 1, 1), move(0, 1, 4), leave(1)), changes{1: nothing(3), 3: constant(1, 0, 4)}},
		{"the entry, gone back to", function(move(0, 1, 1), constant(0, 1, 0)), nil},
		{"the entry, a branch gone back to", function(test(api.Eq, 0, 1, 1, 2), constant(0, 1, 0), leave(0)), nil},
	})
}

// strange has any number in each field.
func strange(op, sub int) rtl.Instr {
	return rtl.Instr{Op: op, Sub: sub, A: 1, B: 2, D: 3, K: 44, Args: []int{-5, 66}, S: 3, T: 4}
}

// TestFoldFields: what is new has no other fields, and what is not new has all that it had.
func TestFoldFields(t *testing.T) {
	with := func(i rtl.Instr) rtl.Func {
		return function(constant(1, 5, 1), constant(2, 2, 2), i, leave(0), leave(1))
	}
	last := func(op, sub, b int) rtl.Instr {
		i := strange(op, sub)
		i.B = b
		return i
	}
	foldPass.comes(t, []passCase{
		{"Const", with(strange(rtl.Const, 99)), nil},
		{"Copy", with(strange(rtl.Copy, 99)), changes{2: constant(3, 5, 3)}},
		{"Un", with(strange(rtl.Un, api.Not)), changes{2: constant(3, -6, 3)}},
		{"Bin", with(strange(rtl.Bin, api.Shl)), changes{2: constant(3, 20, 3)}},
		{"Bin with K", with(last(rtl.Bin, api.Add, -1)), changes{2: constant(3, 49, 3)}},
		{"Cond", with(strange(rtl.Cond, api.Gt)), changes{2: nothing(3)}},
		{"Cond, the other way", with(strange(rtl.Cond, api.Lt)), changes{2: nothing(4)}},
		{"Cond with K", with(last(rtl.Cond, api.Lt, -1)), changes{2: nothing(3)}},
		{"Nop", with(strange(rtl.Nop, 99)), nil},
		{"Load", with(strange(rtl.Load, 4)), nil},
		{"Store", with(strange(rtl.Store, 4)), nil},
		{"Global", with(strange(rtl.Global, 99)), nil},
		{"In", with(strange(rtl.In, 99)), nil},
		{"Out", with(strange(rtl.Out, 99)), nil},
		{"Return", with(strange(rtl.Return, 99)), nil},
	})
	narrow := last(rtl.Bin, api.Add, -1)
	narrow.A, narrow.K = 0, 2
	given := narrow
	given.B, given.K = 2, 44
	foldPass.comes(t, []passCase{{"Bin with one known", with(given), changes{2: narrow}}})
}

// TestFoldOperations holds what is reckoned of known ones against chapter 1, at its edges.
func TestFoldOperations(t *testing.T) {
	for _, a := range edges {
		for sub := api.Neg; sub <= api.Ext32; sub++ {
			v, _ := val.Un(sub, val.Of(a))
			foldPass.comes(t, []passCase{{"Un", function(constant(0, a, 1), un(sub, 0, 1, 2), leave(1)), changes{1: constant(1, v.N, 2)}}})
		}
		for _, b := range edges {
			for sub := api.Add; sub <= api.Ge; sub++ {
				fixedWant, bothWant := changes{}, changes{}
				v, ok := val.Bin(sub, val.Of(a), val.Of(b))
				if ok {
					fixedWant[1], bothWant[2] = constant(2, v.N, 2), constant(2, v.N, 3)
				}
				foldPass.comes(t, []passCase{
					{"Bin with K", function(constant(0, a, 1), fixed(sub, 0, b, 2, 2), leave(1)), fixedWant},
					{"Bin", function(constant(0, a, 1), constant(1, b, 2), bin(sub, 0, 1, 2, 3), leave(1)), bothWant},
				})
				if sub < api.Eq {
					continue
				}
				to := 4 - int(v.N)
				foldPass.comes(t, []passCase{
					{"Cond with K", function(constant(0, a, 1), test(sub, 0, b, 3, 4), nothing(0), leave(1), leave(2)), changes{1: nothing(to)}},
					{"Cond", function(constant(0, a, 1), constant(1, b, 2), cond(sub, 0, 1, 3, 4), leave(1), leave(2)), changes{2: nothing(to)}},
				})
			}
		}
	}
}

// TestFoldedOperandsDoTheSame: with one operand that is known, and any Int, a pointer or nothing as the other, what is done is the same, be it Stuck.
func TestFoldedOperandsDoTheSame(t *testing.T) {
	kinds := map[int]int{}
	for _, k := range edges {
		for sub := api.Add; sub <= api.Ge; sub++ {
			for _, other := range []rtl.Instr{input(1, 2), frame(8, 1, 2), nothing(2)} {
				for _, order := range [][2]int{{0, 1}, {1, 0}} {
					code := []rtl.Instr{constant(0, k, 1), other, bin(sub, order[0], order[1], 2, 3), test(api.Ne, 2, 0, 4, 5), output(0, 5), output(2, 6), leave(0)}
					if sub >= api.Eq {
						code[2] = cond(sub, order[0], order[1], 4, 6)
						code[4] = output(0, 6)
					}
					p := alone(function(code...))
					p.Funcs[0].Params = nil
					folded := answered(t, p, []int{asFold})
					for _, in := range edges {
						a, _ := rtl.Run(p, nil, []int64{in}, 100)
						b, _ := rtl.Run(folded, nil, []int64{in}, 100)
						if !trace.Same(a, b) || fmt.Sprint(a.Leaks, a.Steps) != fmt.Sprint(b.Leaks, b.Steps) {
							t.Errorf("P15.2: Fold of %s: with %d %v, it was %v", rtl.Text(p), in, b, a)
						}
						kinds[a.Kind]++
					}
				}
			}
		}
	}
	if kinds[api.Halt] < 10000 || kinds[api.Stuck] < 10000 {
		t.Errorf("P15.2: they end %v", kinds)
	}
}
