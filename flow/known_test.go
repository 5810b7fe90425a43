package flow

import (
	"fmt"
	"testing"

	"plumbob/api"
	"plumbob/rtl"
	"plumbob/val"
)

type knownCase struct {
	name string
	f    rtl.Func
	want string
}

func knows(t *testing.T, l []knownCase) {
	t.Helper()
	for _, c := range l {
		if got := tellKnown(t, c.f); got != c.want {
			t.Errorf("P14.1: Known of %s: %s, want %s", c.name, got, c.want)
		}
	}
}

// TestKnownInARow has what is known behind an instruction.
func TestKnownInARow(t *testing.T) {
	knows(t, []knownCase{
		{"the example", function(2, constant(0, 1, 1), fixed(api.Add, 0, 1, 1, 2), leave(1)), "|0=1|0=1 1=2"},
		{"one node", function(1, leave(0)), ""},
		{"no registers", function(0, nop(1), call(-1, 2), leave(-1), nop(0)), "|||no"},
		{"a Const", function(2, constant(1, -5, 1), nop(2), leave(-1)), "|1=-5|1=-5"},
		{"the least and the greatest", function(2, constant(1, lowest, 1), constant(0, highest, 2), leave(-1)), "|1=" + fmt.Sprint(lowest) + "|0=9223372036854775807 1=" + fmt.Sprint(lowest)},
		{"0", function(1, constant(0, 0, 1), leave(0)), "|0=0"},
		{"a Const over a Const", function(1, constant(0, 3, 1), constant(0, 4, 2), leave(-1)), "|0=3|0=4"},
		{"a Copy of a known one", function(2, constant(0, 3, 1), move(0, 1, 2), leave(-1)), "|0=3|0=3 1=3"},
		{"a Copy of one not known", function(2, constant(1, 3, 1), move(0, 1, 2), leave(-1)), "|1=3|"},
		{"a Copy to itself", function(2, constant(1, 3, 1), move(1, 1, 2), move(0, 0, 3), leave(-1)), "|1=3|1=3|1=3"},
		{"a Un of one not known", function(2, constant(1, 3, 1), un(api.Neg, 0, 1, 2), leave(-1)), "|1=3|"},
		{"a Bin of one not known and K", function(2, constant(1, 3, 1), fixed(api.Mul, 0, 0, 1, 2), leave(-1)), "|1=3|"},
		{"a Bin of a known one and one not known", function(3, constant(1, 3, 1), bin(api.Add, 1, 0, 2, 2), bin(api.Add, 0, 1, 2, 3), leave(-1)), "|1=3|1=3|1=3"},
		{"a Bin of one not known and itself", function(2, bin(api.Sub, 0, 0, 1, 1), leave(-1)), "|"},
		{"K that is not named", function(2, constant(0, 3, 1), rtl.Instr{Op: rtl.Bin, Sub: api.Add, A: 0, B: 0, K: 100, D: 1, S: 2}, leave(-1)), "|0=3|0=3 1=6"},
		{"a Bin that writes what it reads", function(2, constant(0, 3, 1), fixed(api.Add, 0, 1, 0, 2), bin(api.Mul, 0, 0, 0, 3), leave(-1)), "|0=3|0=4|0=16"},
		{"a division by 0", function(2, constant(0, 3, 1), constant(1, 9, 2), fixed(api.Div, 0, 0, 1, 3), leave(-1)), "|0=3|0=3 1=9|0=3"},
		{"what is left by 0", function(2, constant(0, 0, 1), bin(api.Mod, 0, 0, 1, 2), leave(-1)), "|0=0|0=0"},
		{"a division over its own operand by 0", function(2, constant(0, 3, 1), fixed(api.Div, 0, 0, 0, 2), leave(-1)), "|0=3|"},
		{"the least by -1", function(2, constant(0, lowest, 1), fixed(api.Div, 0, -1, 1, 2), leave(-1)), "|0=" + fmt.Sprint(lowest) + "|0=" + fmt.Sprint(lowest)},
		{"shifts too far", function(3, constant(0, 1, 1), fixed(api.Shl, 0, 64, 1, 2), fixed(api.Shr, 0, -1, 2, 3), fixed(api.Shl, 0, 63, 2, 4), leave(-1)), "|0=1|0=1|0=1|0=1 2=" + fmt.Sprint(lowest)},
		{"behind what chapter 1 does not say", function(3, constant(0, 3, 1), fixed(api.Div, 0, 0, 1, 2), fixed(api.Mul, 1, 0, 2, 3), leave(-1)), "|0=3|0=3|0=3"},
		{"what others write", function(2, constant(1, 3, 1), rtl.Instr{Op: rtl.Load, Sub: 4, A: 0, D: 1, S: 2}, leave(-1)), "|1=3|"},
		{"a Frame", function(1, constant(0, 3, 1), rtl.Instr{Op: rtl.Frame, D: 0, S: 2}, leave(-1)), "|0=3|"},
		{"a Global", function(1, constant(0, 3, 1), rtl.Instr{Op: rtl.Global, D: 0, S: 2}, leave(-1)), "|0=3|"},
		{"an In", function(1, constant(0, 3, 1), input(0, 2), leave(-1)), "|0=3|"},
		{"a Call", function(2, constant(0, 3, 1), constant(1, 4, 2), call(0, 3, 1), leave(-1)), "|0=3|0=3 1=4|1=4"},
		{"a Call without D", function(2, constant(0, 3, 1), constant(1, 4, 2), call(-1, 3, 0, 1), leave(-1)), "|0=3|0=3 1=4|0=3 1=4"},
		{"a Store, an Out", function(2, constant(0, 3, 1), rtl.Instr{Op: rtl.Store, Sub: 4, A: 1, B: 0, D: 0, S: 2}, rtl.Instr{Op: rtl.Out, A: 0, D: 0, S: 3}, leave(-1)), "|0=3|0=3|0=3"},
		{"parameters", rtl.Func{Params: []int{1, 0}, Regs: 2, Code: []rtl.Instr{move(1, 0, 1), constant(1, 2, 2), leave(-1)}}, "||1=2"},
		{"the entry elsewhere", entered(function(1, leave(0), constant(0, 1, 0), constant(0, 2, 1)), 1), "0=1||no"},
	})
}

// TestKnownWhereWaysMeet has branches that nothing is known of, and loops.
func TestKnownWhereWaysMeet(t *testing.T) {
	knows(t, []knownCase{
		{"the same number", function(2, test(api.Eq, 1, 0, 1, 2), constant(0, 7, 3), constant(0, 7, 3), leave(0)), "|||0=7"},
		{"unlike numbers", function(2, test(api.Eq, 1, 0, 1, 2), constant(0, 7, 3), constant(0, 8, 3), leave(0)), "|||"},
		{"0 and none", function(2, test(api.Eq, 1, 0, 1, 2), constant(0, 0, 3), nop(3), leave(0)), "|||"},
		{"a known one and one not known", function(2, test(api.Eq, 1, 0, 1, 2), constant(0, 7, 3), input(0, 3), leave(0)), "|||"},
		{"the same number, reckoned twice", function(3, test(api.Eq, 2, 0, 1, 3), constant(0, 6, 2), fixed(api.Add, 0, 1, 1, 4), constant(1, 7, 4), leave(1)), "||0=6||1=7"},
		{"three ways", function(2, test(api.Eq, 1, 0, 1, 2), constant(0, 7, 5), test(api.Eq, 1, 1, 3, 4), constant(0, 7, 5), constant(0, 9, 5), leave(0)), "|||||"},
		{"both ways of a branch", function(2, constant(0, 7, 1), test(api.Eq, 1, 0, 2, 2), leave(0)), "|0=7|0=7"},
		{"one known on both, one not", function(3, constant(0, 7, 1), test(api.Eq, 2, 0, 2, 3), constant(1, 1, 4), constant(1, 2, 4), leave(0)), "|0=7|0=7|0=7|0=7"},
		{"a loop in which one stays, and one changes", function(3, constant(0, 3, 1), constant(1, 0, 2), cond(api.Lt, 1, 2, 3, 4), bin(api.Add, 1, 0, 1, 2), leave(0)), "|0=3|0=3|0=3|0=3"},
		{"a loop that gives the same number anew", function(3, constant(0, 3, 1), test(api.Lt, 2, 0, 2, 3), constant(0, 3, 1), leave(0)), "|0=3|0=3|0=3"},
		{"a loop that reckons the same number", function(3, constant(0, 1, 1), test(api.Lt, 2, 0, 2, 3), bin(api.Mul, 0, 0, 0, 1), leave(0)), "|0=1|0=1|0=1"},
		{"a loop that reckons another", function(3, constant(0, 2, 1), test(api.Lt, 2, 0, 2, 3), bin(api.Mul, 0, 0, 0, 1), leave(0)), "|||"},
		{"a loop that loses one by another", function(3, constant(0, 0, 1), constant(1, 0, 2), constant(2, 0, 3), move(1, 2, 4), move(0, 1, 5), input(0, 3)), "|0=0|0=0 1=0|||"},
		{"a loop whose entry is known", function(2, constant(0, 5, 1), nop(2), fixed(api.Add, 0, 0, 1, 1)), "|0=5|0=5"},
		{"a node that goes on at itself", function(2, constant(0, 5, 1), nop(1)), "|0=5"},
		{"a node that goes on at itself, and counts", function(2, constant(0, 5, 1), fixed(api.Add, 0, 1, 0, 1)), "|"},
		{"a node that goes on at itself, and does not change", function(2, constant(0, 5, 1), fixed(api.Add, 0, 0, 0, 1)), "|0=5"},
		{"the entry gone back to", function(1, constant(0, 1, 1), nop(0)), "|0=1"},
		{"the entry gone back to by what it is", function(2, nop(1), constant(0, 1, 2), test(api.Eq, 1, 0, 0, 3), leave(0)), "||0=1|0=1"},
		{"the entry that goes on at itself", function(1, constant(0, 1, 0)), ""},
		{"the entry, a branch gone back to", function(1, test(api.Eq, 0, 1, 1, 2), constant(0, 1, 0), leave(0)), "||"},
		{"nodes not reached that go on there", function(1, constant(0, 1, 1), leave(0), constant(0, 2, 1), nop(2)), "|0=1|no|no"},
		{"a ring not reached", function(1, leave(-1), constant(0, 1, 2), constant(0, 1, 1)), "|no|no"},
		{"one that the second way gives", function(2, test(api.Eq, 1, 0, 2, 1), constant(0, 4, 2), leave(0)), "||"},
	})
}

// TestKnownBranches has branches of known ones.
func TestKnownBranches(t *testing.T) {
	knows(t, []knownCase{
		{"one that goes on at S", function(2, constant(0, 3, 1), test(api.Gt, 0, 2, 2, 3), constant(1, 5, 4), constant(1, 6, 4), leave(1)), "|0=3|0=3|no|0=3 1=5"},
		{"one that goes on at T", function(2, constant(0, 3, 1), test(api.Lt, 0, 2, 2, 3), constant(1, 5, 4), constant(1, 6, 4), leave(1)), "|0=3|no|0=3|0=3 1=6"},
		{"one of two registers", function(2, constant(0, 3, 1), constant(1, 3, 2), cond(api.Ne, 0, 1, 3, 4), leave(0), leave(1)), "|0=3|0=3 1=3|no|0=3 1=3"},
		{"one of a register and one not known", function(2, constant(0, 3, 1), cond(api.Eq, 0, 1, 2, 3), leave(0), leave(1)), "|0=3|0=3|0=3"},
		{"one of one not known and a register", function(2, constant(0, 3, 1), cond(api.Eq, 1, 0, 2, 3), leave(0), leave(1)), "|0=3|0=3|0=3"},
		{"one of one not known and itself", function(1, cond(api.Eq, 0, 0, 1, 2), leave(0), leave(0)), "||"},
		{"K that is not named", function(1, constant(0, 3, 1), rtl.Instr{Op: rtl.Cond, Sub: api.Eq, A: 0, B: 0, K: 4, S: 2, T: 3}, leave(0), leave(0)), "|0=3|0=3|no"},
		{"ways that are one", function(1, constant(0, 3, 1), test(api.Eq, 0, 3, 2, 2), leave(0)), "|0=3|0=3"},
		{"a way not taken that leads far", function(2, constant(0, 0, 1), test(api.Eq, 0, 1, 2, 5), input(1, 3), test(api.Eq, 1, 0, 4, 6), constant(0, 9, 5), constant(1, 2, 6), leave(1)), "|0=0|no|no|no|0=0|0=0 1=2"},
		{"a loop that is never left", function(2, constant(0, 1, 1), test(api.Eq, 0, 1, 2, 3), constant(1, 5, 1), leave(0)), "|0=1|0=1|no"},
		{"a loop that is never begun", function(2, constant(0, 0, 1), test(api.Ne, 0, 0, 2, 3), constant(0, 1, 1), leave(0)), "|0=0|no|0=0"},
		{"a loop that is left when it has counted", function(1, constant(0, 0, 1), test(api.Lt, 0, 2, 2, 3), fixed(api.Add, 0, 1, 0, 1), leave(0)), "|||"},
		{"a loop that changes one that another branch asks", function(3, constant(0, 1, 1), constant(1, 0, 2), test(api.Eq, 0, 1, 3, 4), test(api.Eq, 1, 0, 5, 5), constant(0, 2, 2), test(api.Eq, 2, 0, 2, 6), leave(0)), "|0=1|0=1 1=0|0=1 1=0|no|0=1 1=0|0=1 1=0"},
		{"a way that is reached when one is lost", function(3, constant(0, 1, 1), test(api.Eq, 0, 1, 2, 4), input(1, 3), test(api.Eq, 1, 0, 5, 6), constant(2, 8, 6), constant(0, 2, 1), leave(2)), "||||||"},
		{"what comes from a way reached late", function(3, constant(0, 1, 1), constant(2, 8, 2), test(api.Eq, 0, 1, 3, 4), test(api.Eq, 1, 0, 5, 6), constant(2, 9, 6), constant(0, 2, 2), leave(2)), "|0=1|2=8|2=8|2=8|2=8|"},
		{"the entry's own", function(1, test(api.Eq, 0, 0, 1, 2), constant(0, 0, 0), leave(0)), "||"},
		{"two that hang on each other", function(2, constant(0, 0, 1), constant(1, 0, 2), test(api.Eq, 0, 0, 4, 3), constant(1, 1, 4), test(api.Eq, 1, 0, 2, 5), constant(0, 1, 2)), "|0=0|0=0 1=0|no|0=0 1=0|no"},
	})
}

// TestKnownOperations holds what Un, Bin and Cond of known ones come to against chapter 1, at its edges.
func TestKnownOperations(t *testing.T) {
	numbers := []int64{0, 1, 2, 3, 7, 63, 64, 127, 128, 1 << 31, 1 << 32, highest, -1, -2, -7, -128, -1 << 31, lowest}
	is := func(v api.Val, ok bool) Fact {
		if !ok {
			return Fact{}
		}
		return Fact{true, v.N}
	}
	asks := func(f rtl.Func, at, r int, want Fact) {
		t.Helper()
		facts, reached, e := Known(f)
		if e != api.OK || !reached[at] || facts[at][r] != want {
			t.Errorf("P14.1: Known of %s: register %d at %d: %v, want %v (%d)", dump(f), r, at, facts, want, e)
		}
	}
	for _, a := range numbers {
		for sub := api.Neg; sub <= api.Ext32; sub++ {
			asks(function(2, constant(0, a, 1), un(sub, 0, 1, 2), leave(-1)), 2, 1, is(val.Un(sub, val.Of(a))))
		}
		for _, b := range numbers {
			for sub := api.Add; sub <= api.Ge; sub++ {
				want := is(val.Bin(sub, val.Of(a), val.Of(b)))
				asks(function(3, constant(0, a, 1), constant(1, b, 2), bin(sub, 0, 1, 2, 3), leave(-1)), 3, 2, want)
				asks(function(3, constant(0, a, 1), fixed(sub, 0, b, 2, 2), leave(-1)), 2, 2, want)
				if sub >= api.Eq {
					// It goes on at 2 or 3, and at no other.
					f := function(1, constant(0, a, 1), test(sub, 0, b, 2, 3), leave(-1), leave(-1))
					_, reached, _ := Known(f)
					if reached[2] != (want.V == 1) || reached[3] == reached[2] {
						t.Errorf("P14.1: Known of %s: reached %v", dump(f), reached)
					}
				}
			}
		}
	}
}

// TestBranchesOfNothingElse: what chapter 1 does not say of known ones a Cond can't ask, since it may only compare.
func TestBranchesOfNothingElse(t *testing.T) {
	for sub := -2; sub < 40; sub++ {
		f := function(1, constant(0, 3, 1), test(sub, 0, 0, 2, 3), leave(-1), leave(-1))
		facts, reached, e := Known(f)
		if isRight := sub >= api.Eq && sub <= api.Ge; isRight != (e == api.OK) || !isRight && (e != api.EARG || len(facts) != 0 || len(reached) != 0) {
			t.Errorf("P14.1: Known with a branch by %d: %v, %v (%d)", sub, facts, reached, e)
		}
	}
}

// TestResult holds what is known of what an instruction comes to against the second reading.
func TestResult(t *testing.T) {
	facts := []Fact{{true, 7}, {}, {true, 0}, {true, lowest}, {true, -1}}
	for _, i := range allInstructions(len(facts)) {
		want := Fact{}
		switch i.Op {
		case rtl.Const, rtl.Copy, rtl.Un, rtl.Bin:
			want = reckoned(i, facts)
		case rtl.Cond:
			i.Op = rtl.Bin
			want = reckoned(i, facts)
			i.Op = rtl.Cond
		}
		if got := Result(i, facts); got != want {
			t.Errorf("P14.1: what is known of %+v with %v: %v, want %v", i, facts, got, want)
		}
	}
	// Of what there is not nothing is known.
	for op := -1; op < 17; op++ {
		for _, r := range []int{lowest, -2, -1, 5, highest} {
			for _, b := range []int{-1, 0, r} {
				for _, facts := range [][]Fact{nil, facts} {
					i := rtl.Instr{Op: op, Sub: api.Eq, A: r, B: b, D: r, Args: []int{r}, S: r, T: r}
					if got := Result(i, facts); got.Known && op != rtl.Const {
						t.Errorf("R1: what is known of %+v: %v", i, got)
					}
				}
			}
		}
	}
}

// allInstructions have each Op with each operation on any of so many registers.
func allInstructions(regs int) []rtl.Instr {
	var l []rtl.Instr
	for op := rtl.Nop; op <= rtl.Out; op++ {
		for sub := api.Neg; sub <= api.Ge; sub++ {
			for a := range regs {
				for b := -1; b < regs; b++ {
					l = append(l, rtl.Instr{Op: op, Sub: sub, A: a, B: b, K: 3, Args: []int{a}})
				}
			}
		}
	}
	return l
}
