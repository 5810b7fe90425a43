package asm_test

import (
	"fmt"
	"math/rand"
	"testing"

	"plumbob/api"
	"plumbob/asm"
	"plumbob/listings"
)

// TestRunRefused has args, fuel and limits at their edges.
func TestRunRefused(t *testing.T) {
	two := taking(2, program(row(alu(api.Add, 7, 6), movR(0, 7), ret)))
	for _, c := range []struct {
		what        string
		args        []int64
		fuel, limit int
		want        string
	}{
		{"all", l(5, 6), 100000000, all, "halt 11|3"}, {"just enough", l(5, 6), 3, 8, "halt 11|3"}, {"fuel 2", l(5, 6), 2, 8, "fuel|2"}, {"no fuel", l(5, 6), 0, 8, "fuel|0"}, {"limit 7", l(5, 6), 3, 7, "overflow|0"}, {"limit 0", l(5, 6), 3, 0, "overflow|0"}, {"nothing at all", l(5, 6), 0, 0, "overflow|0"}, {"other args", l(highest, 1), 9, 9, "halt -9223372036854775808|3"},
		{"fuel -1", l(5, 6), -1, 8, ""}, {"fuel 100000001", l(5, 6), 100000001, 8, ""}, {"the least fuel", l(5, 6), lowest, 8, ""}, {"all fuel", l(5, 6), highest, 8, ""},
		{"limit -1", l(5, 6), 9, -1, ""}, {"limit 1<<31", l(5, 6), 9, 1 << 31, ""}, {"the least limit", l(5, 6), 9, lowest, ""}, {"the greatest limit", l(5, 6), 9, highest, ""},
		{"no args", nil, 9, 8, ""}, {"an arg too few", l(5), 9, 8, ""}, {"an arg too many", l(5, 6, 7), 9, 8, ""}, {"all wrong", nil, -1, -1, ""},
	} {
		r, e := asm.Run(two, c.args, l(1), c.fuel, c.limit)
		if c.want != "" && (e != api.OK || told(r) != c.want) {
			t.Errorf("P20.1: Run with %s: %s (%d), want %s", c.what, told(r), e, c.want)
		}
		if c.want == "" && (e != api.EARG || fmt.Sprint(r) != fmt.Sprint(api.Run{})) {
			t.Errorf("P20.1: Run with %s: %s (%d)", c.what, told(r), e)
		}
		isRight := len(c.args) == 2 && c.fuel >= 0 && c.fuel <= 100000000
		if n, e := asm.Peak(two, c.args, l(1), c.fuel); isRight && (n != 8 || e != api.OK) || !isRight && (n != 0 || e != api.EARG) {
			t.Errorf("P20.1: Peak with %s: %d (%d)", c.what, n, e)
		}
	}
}

// TestArguments has each number of them: they stand where chapter 16 says, and all else is Undef.
func TestArguments(t *testing.T) {
	order := []int{7, 6, 2, 1, 8, 9}
	for params := range 7 {
		given := l(1, 20, 300, 4000, 50000, 600000)[:params]
		for r := range 16 {
			want := "stuck|2"
			for n, at := range order[:params] {
				if at == r {
					want = fmt.Sprintf("halt %d|2", given[n])
				}
			}
			does(t, fmt.Sprint("register ", r, " with ", params, " parameters"), taking(params, program(row(movR(0, r), ret))), given, nil, want)
		}
	}
}

// TestOps has each Op by itself, with values that are right and wrong. Main's parameter 7 and what LeaG gives are what the Ops get; 11 is Undef.
func TestOps(t *testing.T) {
	end := func(l ...asm.Ins) []asm.Ins { return append(l, ret) }
	p, q := leaG(12, 0, 8), leaG(13, 0, 8)
	isSame := func(r int) []asm.Ins { return row(cmp(r, 13), set(api.Eq, 0), ret) }
	for _, c := range []struct {
		what string
		code []asm.Ins
		want string
	}{
		{"MovR of an Int", end(movR(0, 7)), "halt 5|2"}, {"MovR of a Ptr", append(row(p, q, movR(3, 12)), isSame(3)...), "halt 1|6"}, {"MovR of Undef", end(movR(7, 11), movR(0, 7)), "stuck|3"}, {"MovR of what Undef replaced", end(movR(0, 7), movR(0, 11)), "stuck|3"}, {"MovR of rsp", append(row(enter(8), movR(3, 4), store(8, 3, 0, 7), load(8, 0, 4, 0), leave(8)), ret), "halt 5|addr3,0 addr3,0 6"}, {"MovR of an rsp that is none", end(movR(7, 4), movR(0, 7)), "stuck|3"}, {"MovR to itself", end(movR(7, 7), movR(0, 7)), "halt 5|3"},
		{"MovK of the least", end(movK(0, lowest)), "halt -9223372036854775808|2"}, {"MovK of the greatest", end(movK(15, highest), movR(0, 15)), "halt 9223372036854775807|3"}, {"MovK over a Ptr", end(p, movK(12, -1), movR(0, 12)), "halt -1|4"},
		{"Lea of an Int", end(lea(0, 7, -9)), "halt -4|2"}, {"Lea of the greatest", end(movK(3, highest), lea(0, 3, 1)), "halt -9223372036854775808|3"}, {"Lea of a Ptr", append(row(p, q, lea(3, 12, -8), lea(3, 3, 8)), isSame(3)...), "halt 1|7"}, {"Lea of Undef", end(lea(0, 11, 1)), "stuck|1"}, {"Lea of an rsp that is none", end(lea(0, 4, 1)), "stuck|1"}, {"Lea to itself", end(lea(7, 7, 1<<31-1), lea(7, 7, -1<<31), movR(0, 7)), "halt 4|4"},
		{"LeaG of unlike bytes", append(row(leaG(3, 0, 0), q), isSame(3)...), "halt 0|5"}, {"LeaG of unlike globals", append(row(leaG(3, 1, 8), q), isSame(3)...), "halt 0|5"}, {"LeaG of a global's end", end(leaG(3, 1, 8), store(8, 3, -8, 7), load(4, 0, 3, -8)), "halt 5|addr2,0 addr2,0 4"}, {"an answer that is a Ptr", end(leaG(0, 0, 0)), "stuck|2"},
		{"Alu of Undef", end(alu(api.Add, 7, 11)), "stuck|1"}, {"Alu to Undef", end(alu(api.Add, 11, 7)), "stuck|1"}, {"Alu of a Ptr and an Int", append(row(p, q, aluK(api.Sub, 12, 5), alu(api.Add, 12, 7)), isSame(12)...), "halt 1|7"}, {"Alu of an Int and a Ptr", append(row(p, q, movK(3, 0), alu(api.Add, 3, 12)), isSame(3)...), "halt 1|7"}, {"Alu Sub of a Ptr", append(row(p, q, lea(12, 12, 5), alu(api.Sub, 12, 7)), isSame(12)...), "halt 1|7"}, {"Alu Sub of Ptrs", end(p, alu(api.Sub, 12, 12)), "stuck|2"}, {"Alu Xor of a Ptr", end(p, alu(api.Xor, 12, 12)), "stuck|2"}, {"Alu Xor of Undef", end(alu(api.Xor, 11, 11)), "stuck|1"}, {"Alu Xor of itself", end(alu(api.Xor, 7, 7), movR(0, 7)), "halt 0|3"}, {"Alu Mul of itself", end(alu(api.Mul, 7, 7), movR(0, 7)), "halt 25|3"}, {"AluK Mul of a Ptr", end(p, aluK(api.Mul, 12, 1)), "stuck|2"}, {"AluK And of a Ptr", end(p, aluK(api.And, 12, -1)), "stuck|2"}, {"AluK of Undef", end(aluK(api.Or, 11, 0)), "stuck|1"},
		{"Un Neg", end(un(api.Neg, 7), movR(0, 7)), "halt -5|3"}, {"Un Not", end(un(api.Not, 7), movR(0, 7)), "halt -6|3"}, {"Un Neg of the least", end(movK(0, lowest), un(api.Neg, 0)), "halt -9223372036854775808|3"}, {"Un of a Ptr", end(p, un(api.Neg, 12)), "stuck|2"}, {"Un of Undef", end(un(api.Not, 11)), "stuck|1"},
		{"Ext8", end(movK(3, 0x180), ext(api.Ext8, 0, 3)), "halt -128|3"}, {"Ext8 of 127", end(movK(3, 0x17f), ext(api.Ext8, 0, 3)), "halt 127|3"}, {"Ext32", end(movK(3, 5<<32|1<<31), ext(api.Ext32, 0, 3)), "halt -2147483648|3"}, {"Ext32 of less", end(movK(3, 5<<32|1<<31-1), ext(api.Ext32, 0, 3)), "halt 2147483647|3"}, {"Ext of a Ptr", end(p, ext(api.Ext32, 0, 12)), "stuck|2"}, {"Ext of Undef", end(ext(api.Ext8, 7, 11)), "stuck|1"}, {"Ext leaves M", end(movK(3, 300), ext(api.Ext8, 5, 3), movR(0, 3)), "halt 300|4"},
		{"Shift Shl by 63", end(shift(api.Shl, 7, 63), movR(0, 7)), "halt -9223372036854775808|3"}, {"Shift Shl by 0", end(shift(api.Shl, 7, 0), movR(0, 7)), "halt 5|3"}, {"Shift Shr by 63", end(movK(0, lowest), shift(api.Shr, 0, 63)), "halt -1|3"}, {"Shift Shr by 0", end(movK(0, -9), shift(api.Shr, 0, 0)), "halt -9|3"}, {"Shift Shr by 1", end(movK(0, -9), shift(api.Shr, 0, 1)), "halt -5|3"}, {"Shift of a Ptr", end(p, shift(api.Shl, 12, 0)), "stuck|2"}, {"Shift of Undef", end(shift(api.Shr, 11, 1)), "stuck|1"},
		{"ShiftC by 1", end(movK(1, 1), shiftC(api.Shl, 7), movR(0, 7)), "halt 10|4"}, {"ShiftC by 63", end(movK(1, 63), shiftC(api.Shl, 7), movR(0, 7)), "halt -9223372036854775808|4"}, {"ShiftC by 64", end(movK(1, 64), shiftC(api.Shr, 7), movR(0, 7)), "halt 5|4"}, {"ShiftC by -1", end(movK(1, -1), movK(0, lowest), shiftC(api.Shr, 0)), "halt -1|4"}, {"ShiftC by -64", end(movK(1, -64), shiftC(api.Shl, 7), movR(0, 7)), "halt 5|4"}, {"ShiftC by -62", end(movK(1, -62), shiftC(api.Shl, 7), movR(0, 7)), "halt 20|4"}, {"ShiftC by the least", end(movK(1, lowest), shiftC(api.Shl, 7), movR(0, 7)), "halt 5|4"}, {"ShiftC by the greatest", end(movK(1, highest), shiftC(api.Shl, 7), movR(0, 7)), "halt -9223372036854775808|4"}, {"ShiftC of rcx", end(movK(1, 67), shiftC(api.Shl, 1), movR(0, 1)), "halt 536|4"}, {"ShiftC by Undef", end(shiftC(api.Shl, 7)), "stuck|1"}, {"ShiftC by a Ptr", end(leaG(1, 0, 0), shiftC(api.Shl, 7)), "stuck|2"}, {"ShiftC of a Ptr", end(p, movK(1, 0), shiftC(api.Shl, 12)), "stuck|3"}, {"ShiftC of Undef", end(movK(1, 0), shiftC(api.Shr, 11)), "stuck|2"},
		{"Cqo of 0", end(movK(0, 0), cqo, movR(0, 2)), "halt 0|4"}, {"Cqo of the greatest", end(movK(0, highest), cqo, movR(0, 2)), "halt 0|4"}, {"Cqo of -1", end(movK(0, -1), cqo, movR(0, 2)), "halt -1|4"}, {"Cqo of the least", end(movK(0, lowest), cqo, movR(0, 2)), "halt -1|4"}, {"Cqo leaves rax", end(movK(0, -3), cqo), "halt -3|3"}, {"Cqo of a Ptr", end(leaG(0, 0, 0), cqo), "stuck|2"}, {"Cqo of Undef", end(cqo), "stuck|1"},
		{"Cmp of Undef", end(cmp(11, 11), movK(0, 1)), "halt 1|3"}, {"Set of Undef", end(cmp(7, 11), set(api.Ne, 0)), "stuck|2"}, {"Set of a Ptr and 0", end(p, cmpK(12, 0), set(api.Ne, 0)), "halt 1|4"}, {"Set of a Ptr and 1", end(p, cmpK(12, 1), set(api.Ne, 0)), "stuck|3"}, {"Set of Ptrs' order", end(p, q, cmp(12, 13), set(api.Le, 0)), "stuck|4"}, {"Set over its own flags", end(cmp(7, 7), set(api.Eq, 7), set(api.Eq, 0)), "halt 1|4"}, {"Cmp, and another value", end(cmpK(7, 5), movK(7, 6), set(api.Eq, 0)), "halt 1|4"}, {"the last Cmp", end(cmpK(7, 5), cmpK(7, 6), set(api.Eq, 0)), "halt 0|4"}, {"flags behind an Alu", end(cmpK(7, 5), aluK(api.Add, 7, 1), enter(8), leave(8), set(api.Eq, 0)), "halt 1|6"}, {"Cmp of rsp", end(enter(0), movR(3, 4), cmp(4, 3), set(api.Eq, 0), leave(0)), "halt 1|6"},
		{"CmpK -1<<31", end(movK(3, -1<<31), cmpK(3, -1<<31), set(api.Eq, 0)), "halt 1|4"}, {"Cmp of edges", end(movK(3, lowest), movK(5, highest), cmp(3, 5), set(api.Lt, 0)), "halt 1|5"},
		{"InI", end(in), "in 4|halt 4|2"}, {"InI behind the world", end(in, in, in), "in 4|in -9|in 0|halt 0|4"}, {"OutI", end(movR(0, 7), out), "out 5|halt 5|3"}, {"OutI of a Ptr", end(leaG(0, 0, 0), out), "stuck|2"}, {"OutI of Undef", end(out), "stuck|1"}, {"InI and OutI", end(in, out, in, out), "in 4|out 4|in -9|out -9|halt -9|5"},
		{"an answer that is none", end(), "stuck|1"},
	} {
		does(t, c.what, taking(1, program(c.code)), l(5), l(4, -9), c.want)
	}
}

// TestReckoning has numbers at their edges: Alu, AluK and what the flags tell.
func TestReckoning(t *testing.T) {
	for _, c := range []struct {
		op         int
		a, b, want int64
	}{
		{api.Add, highest, 1, lowest}, {api.Add, lowest, -1, highest}, {api.Add, -3, 3, 0}, {api.Sub, lowest, 1, highest}, {api.Sub, 3, 5, -2}, {api.Sub, highest, -1, lowest}, {api.Mul, highest, 2, -2}, {api.Mul, lowest, -1, lowest}, {api.Mul, -3, 7, -21},
		{api.And, -1, 6, 6}, {api.And, 12, 10, 8}, {api.Or, 12, 10, 14}, {api.Or, -8, 1, -7}, {api.Xor, 12, 10, 6}, {api.Xor, -1, 5, -6}, {api.Add, 1, -1 << 31, 1 - 1<<31}, {api.Add, 1, 1<<31 - 1, 1 << 31},
	} {
		what := fmt.Sprint(c)
		want := fmt.Sprintf("halt %d|", c.want)
		does(t, "Alu "+what, program(row(movK(0, c.a), movK(3, c.b), alu(c.op, 0, 3), ret)), nil, nil, want+"4")
		does(t, "AluK "+what, program(row(movK(0, c.a), aluK(c.op, 0, c.b), ret)), nil, nil, want+"3")
	}
	conditions := []int{api.Eq, api.Ne, api.Lt, api.Le, api.Gt, api.Ge}
	for _, c := range []struct {
		a, b int64
		want string
	}{{1, 2, "011100"}, {2, 2, "100101"}, {3, 2, "010011"}, {lowest, 1<<31 - 1, "011100"}, {highest, -1 << 31, "010011"}, {-1, 0, "011100"}} {
		for n, cc := range conditions {
			bit := c.want[n : n+1]
			does(t, fmt.Sprint("Set ", cc, c), program(row(movK(3, c.a), cmpK(3, c.b), set(cc, 0), ret)), nil, nil, "halt "+bit+"|4")
			far := movK(0, 7)
			jump := program(row(movK(3, c.a), movK(5, c.b), cmp(3, 5), movK(0, 8), jcc(cc, 2), far, label(2), ret))
			want := "halt 7|branch0,0 8"
			if bit == "1" {
				want = "halt 8|branch1,0 7"
			}
			does(t, fmt.Sprint("Jcc ", cc, c), jump, nil, nil, want)
		}
	}
}

// TestDivisions has what Idiv asks of rax, rdx and M, and what leaks ahead of that.
func TestDivisions(t *testing.T) {
	for _, c := range []struct {
		what string
		code []asm.Ins
		want string
	}{
		{"7 by 2", row(movK(0, 7), movK(3, 2), cqo, idiv(3), out, movR(0, 2), ret), "out 3|halt 1|divide7,2 7"}, {"-7 by 2", row(movK(0, -7), movK(3, 2), cqo, idiv(3), out, movR(0, 2), ret), "out -3|halt -1|divide-7,2 7"}, {"7 by -2", row(movK(0, 7), movK(3, -2), cqo, idiv(3), out, movR(0, 2), ret), "out -3|halt 1|divide7,-2 7"},
		{"by 0", row(movK(0, 7), movK(3, 0), cqo, idiv(3), ret), "stuck|divide7,0 4"}, {"the least by -1", row(movK(0, lowest), movK(3, -1), cqo, idiv(3), ret), "stuck|divide-9223372036854775808,-1 4"}, {"the least by 1", row(movK(0, lowest), movK(3, 1), cqo, idiv(3), ret), "halt -9223372036854775808|divide-9223372036854775808,1 5"}, {"the greatest by -1", row(movK(0, highest), movK(3, -1), cqo, idiv(3), ret), "halt -9223372036854775807|divide9223372036854775807,-1 5"},
		{"with rdx by hand", row(movK(0, -7), movK(2, -1), movK(3, 7), idiv(3), ret), "halt -1|divide-7,7 5"}, {"0 with rdx 0", row(movK(0, 0), movK(2, 0), movK(3, 7), idiv(3), ret), "halt 0|divide0,7 5"}, {"an rdx that is not rax's", row(movK(0, 7), movK(2, -1), movK(3, 7), idiv(3), ret), "stuck|divide7,7 4"}, {"one of 0", row(movK(0, -7), movK(2, 0), movK(3, 7), idiv(3), ret), "stuck|divide-7,7 4"}, {"one of 1", row(movK(0, 7), movK(2, 1), movK(3, 7), idiv(3), ret), "stuck|divide7,7 4"}, {"an rdx that is Undef", row(movK(0, 7), movK(3, 7), idiv(3), ret), "stuck|divide7,7 3"}, {"a Ptr in rdx", row(movK(0, 7), leaG(2, 0, 0), movK(3, 7), idiv(3), ret), "stuck|divide7,7 4"}, {"a Cqo ahead of another rax", row(movK(0, 7), cqo, movK(0, -7), idiv(0), ret), "stuck|divide-7,-7 4"}, {"a Cqo ahead of a like one", row(movK(0, 7), cqo, movK(0, 9), movK(3, 4), idiv(3), ret), "halt 2|divide9,4 6"},
		{"by rax", row(movK(0, 7), cqo, idiv(0), out, movR(0, 2), ret), "out 1|halt 0|divide7,7 6"}, {"by rdx", row(movK(0, -7), cqo, idiv(2), out, movR(0, 2), ret), "out 7|halt 0|divide-7,-1 6"}, {"by an rdx of 0", row(movK(0, 7), cqo, idiv(2), ret), "stuck|divide7,0 3"},
		{"of a Ptr", row(leaG(0, 0, 0), movK(2, 0), movK(3, 1), idiv(3), ret), "stuck|4"}, {"by a Ptr", row(movK(0, 7), cqo, leaG(3, 0, 0), idiv(3), ret), "stuck|4"}, {"of Undef", row(movK(2, 0), movK(3, 1), idiv(3), ret), "stuck|3"}, {"by Undef", row(movK(0, 7), cqo, idiv(3), ret), "stuck|3"},
	} {
		does(t, c.what, program(c.code), nil, nil, c.want)
	}
}

// TestAccesses has loads and stores: what leaks, and what is none.
func TestAccesses(t *testing.T) {
	g := leaG(12, 0, 0)
	for _, c := range []struct {
		what string
		code []asm.Ins
		want string
	}{
		{"a global at first", row(g, load(8, 0, 12, 8), ret), "halt 0|addr1,8 3"}, {"a byte", row(g, movK(3, 200), store(1, 12, 15, 3), load(1, 0, 12, 15), ret), "halt -56|addr1,15 addr1,15 5"}, {"four bytes", row(g, movK(3, 7<<32-1), store(4, 12, 4, 3), load(4, 0, 12, 4), ret), "halt -1|addr1,4 addr1,4 5"}, {"eight bytes of four", row(g, movK(3, -1), store(4, 12, 4, 3), load(8, 0, 12, 0), ret), "halt -4294967296|addr1,4 addr1,0 5"}, {"a great offset", row(leaG(12, 0, 16), lea(12, 12, 1<<31-1), load(1, 0, 12, -1<<31), ret), "halt 0|addr1,15 4"},
		{"a Ptr", row(g, store(8, 12, 8, 12), load(8, 3, 12, 8), load(4, 0, 3, 0), ret), "halt 0|addr1,8 addr1,8 addr1,0 5"}, {"a Ptr of four bytes", row(g, store(4, 12, 0, 12), ret), "stuck|addr1,0 2"}, {"Undef", row(g, store(8, 12, 0, 11), load(8, 0, 12, 0), ret), "stuck|addr1,0 addr1,0 4"}, {"Undef of a byte", row(g, store(1, 12, 3, 11), load(1, 5, 12, 2), load(4, 0, 12, 0), ret), "stuck|addr1,3 addr1,2 addr1,0 5"},
		{"behind a block", row(g, load(8, 0, 12, 16), ret), "stuck|addr1,16 2"}, {"over its end", row(g, store(8, 12, 9, 12), ret), "stuck|addr1,9 2"}, {"ahead of it", row(g, movK(0, 1), store(1, 12, -1, 0), ret), "stuck|addr1,-1 3"}, {"an address that 8 does not divide", row(g, load(8, 0, 12, 4), ret), "stuck|addr1,4 2"}, {"one that 4 does not", row(g, load(4, 0, 12, 2), ret), "stuck|addr1,2 2"},
		{"of an Int", row(movK(12, 0), load(8, 0, 12, 0), ret), "stuck|2"}, {"to an Int", row(movK(12, 8), store(8, 12, 0, 12), ret), "stuck|2"}, {"of Undef", row(load(8, 0, 11, 0), ret), "stuck|1"}, {"to Undef", row(store(8, 11, 0, 11), ret), "stuck|1"}, {"to an rsp that is none", row(movK(0, 1), store(8, 4, 0, 0), ret), "stuck|2"},
		{"a frame at first", row(enter(16), load(8, 0, 4, 8), movK(0, 3), leave(16), ret), "halt 3|addr3,8 5"}, {"its Undef", row(enter(16), load(8, 0, 4, 8), leave(16), ret), "stuck|addr3,8 4"}, {"its end", row(enter(16), movK(0, 3), store(8, 4, 16, 0), ret), "stuck|addr3,16 3"}, {"a frame of 0 bytes", row(enter(0), movK(0, 3), store(1, 4, 0, 0), ret), "stuck|addr3,0 3"}, {"a frame that is freed", row(enter(16), movR(3, 4), leave(16), movK(0, 2), store(8, 3, 0, 0), ret), "stuck|addr3,0 5"}, {"rsp behind Leave", row(enter(16), leave(16), movK(0, 2), store(8, 4, 0, 0), ret), "stuck|4"}, {"a second frame", row(movK(0, 2), enter(16), store(8, 4, 0, 0), leave(16), enter(16), load(8, 0, 4, 0), leave(16), ret), "stuck|addr3,0 addr4,0 8"},
		{"rsp as a value", row(enter(8), store(8, 4, 0, 4), load(8, 3, 4, 0), cmp(4, 3), set(api.Eq, 0), leave(8), ret), "halt 1|addr3,0 addr3,0 7"}, {"a base that is the goal", row(g, load(8, 12, 12, 0), movR(0, 12), ret), "halt 0|addr1,0 4"},
	} {
		does(t, c.what, program(c.code), nil, nil, c.want)
	}
}

// TestWays has where a run goes on, and where it is stuck.
func TestWays(t *testing.T) {
	five := movK(0, 5)
	none := func(l ...asm.Ins) []asm.Ins { return append(row(cmpK(0, 5)), l...) }
	for _, c := range []struct {
		what string
		p    asm.Prog
		want string
	}{
		{"a Label", program(row(label(1), five, label(2), ret)), "halt 5|4"}, {"a Jmp ahead", program(row(five, jmp(1), movK(0, 6), label(1), ret)), "halt 5|4"}, {"a Jmp back", program(row(five, jmp(2), label(1), ret, label(2), jmp(1))), "halt 5|6"}, {"a jump to the end", program(row(five, jmp(1), ret, label(1))), "stuck|3"}, {"a ring", program(row(label(1), jmp(1))), "fuel|300000"},
		{"a function's end", program(row(five)), "stuck|1"}, {"the end of another one", program(row(five, call(1), ret), row(five)), "stuck|call1,0 3"}, {"the end behind a Call", program(row(five, call(1)), row(ret)), "stuck|call1,0 3"}, {"the end behind a Jcc", program(row(label(1), movK(0, 5), cmpK(0, 5), jcc(api.Ne, 1))), "stuck|branch0,0 4"}, {"a frame at the end", program(row(enter(8))), "stuck|1"},
		{"a Jcc without flags", program(row(five, jcc(api.Eq, 1), label(1), ret)), "stuck|2"}, {"a Set without flags", program(row(five, set(api.Eq, 0), ret)), "stuck|2"}, {"a Jcc of Undef", program(row(cmpK(0, 1), jcc(api.Eq, 1), label(1), five, ret)), "stuck|2"}, {"a Jcc of Ptrs", program(row(leaG(3, 0, 0), cmp(3, 3), jcc(api.Ge, 1), label(1), five, ret)), "stuck|3"}, {"a Jcc of Ptrs' Eq", program(row(five, leaG(3, 0, 0), cmp(3, 3), jcc(api.Eq, 1), ret, label(1), movK(0, 6), ret)), "halt 6|branch1,0 7"},
		{"flags in a callee", program(none(call(1), five, ret), row(set(api.Eq, 0), ret)), "stuck|call1,0 3"}, {"a Jcc in a callee", program(none(call(1), five, ret), row(jcc(api.Eq, 1), label(1), ret)), "stuck|call1,0 3"}, {"flags behind a Call", program(row(five, cmpK(0, 5), call(1), set(api.Eq, 0), ret), row(ret)), "stuck|call1,0 5"}, {"flags of a callee", program(row(five, call(1), set(api.Eq, 0), ret), row(cmpK(0, 5), ret)), "stuck|call1,0 5"}, {"a Jcc of a callee's", program(row(five, call(1), jcc(api.Eq, 1), label(1), ret), row(cmpK(0, 5), ret)), "stuck|call1,0 5"}, {"flags made anew", program(row(five, call(1), cmpK(0, 5), set(api.Eq, 0), ret), row(cmpK(0, 6), ret)), "halt 1|call1,0 7"}, {"flags over a Jmp and a Jcc", program(row(five, cmpK(0, 5), jmp(1), label(1), jcc(api.Ne, 1), set(api.Eq, 0), ret)), "halt 1|branch0,0 7"},
		{"a Ret with a frame", program(row(five, enter(8), ret)), "stuck|3"}, {"one of 0 bytes", program(row(five, enter(0), ret)), "stuck|3"}, {"a callee's Ret with a frame", program(row(five, call(1), ret), row(enter(0), ret)), "stuck|call1,0 4"}, {"a second Enter", program(row(five, enter(8), enter(8), leave(8), leave(8), ret)), "stuck|3"}, {"a Leave without", program(row(five, leave(0), ret)), "stuck|2"}, {"a second Leave", program(row(five, enter(8), leave(8), leave(8), ret)), "stuck|4"}, {"a Leave of less", program(row(five, enter(8), leave(0), ret)), "stuck|3"}, {"a Leave of more", program(row(five, enter(8), leave(16), ret)), "stuck|3"}, {"a Leave of a caller's frame", program(row(five, enter(8), call(1), leave(8), ret), row(leave(8), ret)), "stuck|call1,0 4"}, {"an Enter beside a caller's frame", program(row(five, enter(8), call(1), leave(8), ret), row(enter(8), leave(8), ret)), "halt 5|call1,0 8"}, {"a Ret beside a caller's frame", program(row(five, enter(8), call(1), leave(8), ret), row(ret)), "halt 5|call1,0 6"}, {"a frame that a callee leaves there", program(row(five, call(1), leave(8), ret), row(enter(8), jmp(1), label(1))), "stuck|call1,0 5"}, {"a frame once more", program(row(five, enter(8), leave(8), enter(16), leave(16), ret)), "halt 5|6"},
		{"main's Ret of a main that is called", program(row(aluK(api.Add, 7, 1), cmpK(7, 3), jcc(api.Ge, 1), call(0), label(1), movR(0, 7), out, ret)), "out 3|out 3|out 3|halt 3|branch0,0 call0,0 branch0,0 call0,0 branch1,0 23"},
		{"a callee's answer that is no Int", program(row(call(1), five, ret), row(leaG(0, 0, 0), ret)), "halt 5|call1,0 5"}, {"an answer that is a frame's Ptr", program(row(enter(0), movR(0, 4), leave(0), ret)), "stuck|4"},
	} {
		p, args := c.p, l()
		if c.what[:5] == "main'" {
			p, args = taking(1, p), l(0)
		}
		does(t, c.what, p, args, nil, c.want)
	}
}

// TestCalls: a call keeps nothing, and takes nothing: registers stay as they are, but rsp behind Leave.
func TestCalls(t *testing.T) {
	for r := range 16 {
		if r == 4 {
			continue
		}
		var through []asm.Ins
		if r != 0 {
			through = row(movR(0, r))
		}
		code := append(row(movK(r, 50), call(1)), append(through, out, ret)...)
		steps := len(code) + 2
		does(t, fmt.Sprint("register ", r, " of the caller"), program(code, row(aluK(api.Add, r, 3), ret)), nil, nil, fmt.Sprintf("out 53|halt 53|call1,0 %d", steps))
		given := append(append(row(call(1)), through...), ret)
		does(t, fmt.Sprint("register ", r, " of the callee"), program(given, row(movK(r, 9), ret)), nil, nil, fmt.Sprintf("halt 9|call1,0 %d", len(given)+2))
		lost := append(append(row(call(1)), through...), ret)
		does(t, fmt.Sprint("register ", r, " of nobody"), program(lost, row(ret)), nil, nil, fmt.Sprintf("stuck|call1,0 %d", len(lost)+1))
	}
	// The callee's frame is another block, through which the caller's can be reached by what it left in rsp.
	caller := row(movK(0, 7), enter(16), store(8, 4, 8, 0), call(1), load(8, 0, 4, 8), leave(16), ret)
	does(t, "rsp of the caller", program(caller, row(load(8, 3, 4, 8), aluK(api.Add, 3, 1), enter(16), store(8, 4, 8, 3), leave(16), store(8, 4, 8, 3), ret)), nil, nil, "halt 8|addr3,8 call1,0 addr3,8 addr4,8 addr3,8 addr3,8 14")
	does(t, "two frames' Ptrs", program(row(enter(8), movR(3, 4), call(1), leave(8), ret), row(enter(8), movR(5, 4), cmp(3, 5), set(api.Eq, 0), leave(8), ret)), nil, nil, "halt 0|call1,0 11")
	does(t, "a callee twice", program(row(call(2), call(1), ret), row(alu(api.Add, 0, 7), call(2), ret), row(movK(0, 2), movK(7, 3), ret)), nil, nil, "halt 2|call2,0 call1,0 call2,0 12")
}

// TestMany runs programs by chance, with slips and without.
func TestMany(t *testing.T) {
	t.Parallel()
	var ends [5]int
	leaks := 0
	for n := range 1200 {
		r := rand.New(rand.NewSource(int64(n)))
		p := listings.New(r.Intn, []int{0, 0, 100, 30, 10}[n%5]).Deep([]int{0, 0, 40}[n%3]).Program()
		if n%8 == 7 {
			p = listings.Wild(r.Intn)
		}
		var args []int64
		for range p.Params {
			args = append(args, int64(r.Intn(9)-4))
		}
		run := someRun(t, n, p, args, l(3, lowest, -7), 3000, []int{all, 40, 400, 4000}[n%4])
		ends[run.Kind]++
		leaks += len(run.Leaks)
	}
	if ends[api.Halt] < 300 || ends[api.Fuel] < 5 || ends[api.Stuck] < 200 || ends[api.Overflow] < 20 || leaks < 2000 {
		t.Errorf("ends %v, %d leaks", ends, leaks)
	}
}

// someRun holds a run against the second reading, with some of its fuel too.
func someRun(t *testing.T, n int, p asm.Prog, args, world []int64, fuel, limit int) api.Run {
	t.Helper()
	p = spare(p)
	before := dump(p)
	run, e := asm.Run(p, args, world, fuel, limit)
	want := reading(p, args, world, fuel, limit)
	if e != api.OK || told(run) != told(want.run) {
		t.Fatalf("P20.1: number %d: %.1000s (%d), want %.1000s: %s", n, told(run), e, told(want.run), asm.Text(p))
	}
	for part := 0; part < run.Steps; part += 1 + run.Steps/7 {
		some, _ := asm.Run(p, args, world, part, limit)
		if some.Kind != api.Fuel || some.Steps != part || !begins(some, run) {
			t.Errorf("P20.1: number %d with fuel %d: %.1000s, not as %.1000s begins", n, part, told(some), told(run))
		}
	}
	peak, e := asm.Peak(p, args, world, fuel)
	if e != api.OK || peak != reading(p, args, world, fuel, all).peak {
		t.Errorf("P20.1: number %d: Peak %d (%d)", n, peak, e)
	}
	if dump(p) != before {
		t.Errorf("R4: number %d: the program is changed", n)
	}
	return run
}
