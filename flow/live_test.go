package flow

import (
	"strings"
	"testing"

	"plumbob/api"
	"plumbob/rtl"
)

func TestLive(t *testing.T) {
	for _, c := range []struct {
		name string
		f    rtl.Func
		want string
	}{
		{"the example", function(2, constant(0, 1, 1), fixed(api.Add, 0, 1, 1, 2), leave(1)), "|0|1"},
		{"one node", function(1, leave(0)), "0"},
		{"no registers", function(0, nop(1), leave(-1)), "|"},
		{"registers that nobody reads", function(3, constant(0, 1, 1), constant(2, 1, 2), leave(-1)), "||"},
		{"one that is read ahead of all", function(2, output(1, 1), output(0, 2), leave(1)), "0 1|0 1|1"},
		{"one that is read and written", function(2, fixed(api.Add, 0, 1, 0, 1), leave(0)), "0|0"},
		{"one that is read and written, and read no more", function(2, fixed(api.Add, 0, 1, 0, 1), leave(-1)), "0|"},
		{"a copy to itself", function(2, nop(1), move(1, 1, 2), leave(1)), "1|1|1"},
		{"one that is written twice", function(1, constant(0, 1, 1), constant(0, 2, 2), leave(0)), "||0"},
		{"one that is written on one way", function(2, test(api.Eq, 1, 0, 1, 2), constant(0, 1, 2), leave(0)), "0 1||0"},
		{"one that is written on both ways", function(2, test(api.Eq, 1, 0, 1, 2), constant(0, 1, 3), constant(0, 2, 3), leave(0)), "1|||0"},
		{"one that is read on S alone", function(3, test(api.Eq, 1, 0, 1, 2), leave(0), leave(2)), "0 1 2|0|2"},
		{"a branch whose ways are one", function(2, cond(api.Lt, 1, 0, 1, 1), leave(-1)), "0 1|"},
		{"a loop", function(3, input(0, 1), constant(1, 0, 2), test(api.Eq, 0, 0, 5, 3), bin(api.Add, 1, 0, 1, 4), fixed(api.Sub, 0, 1, 0, 2), leave(1)), "|0|0 1|0 1|0 1|1"},
		{"a loop that carries one that only the end reads", function(2, test(api.Ne, 0, 0, 1, 2), fixed(api.Sub, 0, 1, 0, 0), leave(1)), "0 1|0 1|1"},
		{"a loop without an end", function(2, output(1, 1), constant(1, 3, 0)), "1|"},
		{"one node that goes on at itself", function(1, nop(0)), ""},
		{"one node that reads, and goes on at itself", function(2, output(1, 0)), "1"},
		{"one node that writes what it reads, and goes on at itself", function(1, fixed(api.Add, 0, 1, 0, 0)), "0"},
		{"one branch that goes on at itself", function(3, cond(api.Eq, 2, 0, 0, 0)), "0 2"},
		{"two loops within one another", function(4, test(api.Eq, 0, 0, 5, 1), test(api.Eq, 1, 0, 4, 2), fixed(api.Sub, 1, 1, 1, 3), output(2, 1), fixed(api.Sub, 0, 1, 0, 0), leave(3)), "0 1 2 3|0 1 2 3|0 1 2 3|0 1 2 3|0 1 2 3|3"},
		{"nodes not reached", function(3, leave(0), output(1, 0), constant(0, 1, 1), nop(3)), "0|0 1|1|"},
		{"a ring not reached", function(3, leave(-1), output(2, 2), output(1, 1)), "|1 2|1 2"},
		{"the entry elsewhere", entered(function(2, leave(1), constant(1, 1, 0)), 1), "1|"},
		{"a return of nothing", function(2, output(1, 1), leave(-1)), "1|"},
		{"a call without answer", function(2, call(-1, 1), leave(1)), "1|1"},
		{"a call whose answer is read", function(2, call(1, 1), leave(1)), "|1"},
		{"a call whose answer is one of its arguments", function(2, call(1, 1, 0, 1), leave(1)), "0 1|1"},
		{"arguments in any order, some twice", function(9, call(-1, 1, 7, 3, 8, 3, 0, 7), leave(5)), "0 3 5 7 8|5"},
		{"a store", function(3, rtl.Instr{Op: rtl.Store, Sub: 8, A: 2, B: 0, D: 1, S: 1}, leave(1)), "0 1 2|1"},
		{"a load to what it reads", function(3, rtl.Instr{Op: rtl.Load, Sub: 8, A: 2, D: 2, S: 1}, leave(2)), "2|2"},
		{"B of -1", function(3, fixed(api.Mul, 2, 5, 0, 1), test(api.Lt, 1, 5, 2, 2), leave(0)), "1 2|0 1|0"},
	} {
		if got := tellLive(t, c.f); got != c.want {
			t.Errorf("P14.1: Live of %s: %s, want %s", c.name, got, c.want)
		}
	}
}

// TestLiveOfEachOp has each one with all fields, ahead of what reads nothing and of what reads all.
func TestLiveOfEachOp(t *testing.T) {
	for _, c := range []struct {
		op, sub      int
		alone, ahead string
	}{
		{rtl.Nop, 77, "", "0 1 2 3 4 5"}, {rtl.Const, 77, "", "0 1 3 4 5"}, {rtl.Copy, 77, "0", "0 1 3 4 5"}, {rtl.Un, api.Not, "0", "0 1 3 4 5"},
		{rtl.Bin, api.Add, "0 1", "0 1 3 4 5"}, {rtl.Load, 4, "0", "0 1 3 4 5"}, {rtl.Store, 4, "0 1", "0 1 2 3 4 5"}, {rtl.Global, 77, "", "0 1 3 4 5"},
		{rtl.Frame, 77, "", "0 1 3 4 5"}, {rtl.Call, 77, "3 4", "0 1 3 4 5"}, {rtl.Cond, api.Lt, "0 1", "0 1 2 3 4 5"}, {rtl.Return, 77, "0", "0"},
		{rtl.In, 77, "", "0 1 3 4 5"}, {rtl.Out, 77, "0", "0 1 2 3 4 5"},
	} {
		i := rtl.Instr{Op: c.op, Sub: c.sub, A: 0, B: 1, D: 2, K: 5, Args: []int{4, 3, 4}, S: 1, T: 1}
		if got := tellLive(t, function(6, i, leave(-1))); got != c.alone+"|" {
			t.Errorf("P14.1: Live of Op %d ahead of nothing: %s", c.op, got)
		}
		if got, want := tellLive(t, function(6, i, call(-1, 2, 5, 4, 3, 2, 1, 0), leave(-1))), c.ahead+"|0 1 2 3 4 5|"; got != want {
			t.Errorf("P14.1: Live of Op %d ahead of what reads all: %s, want %s", c.op, got, want)
		}
		// Fields that the table does not name are not asked.
		for _, far := range []int{lowest, -1, 6, highest} {
			if got, want := tellLive(t, function(6, unnamed(i, far), leave(-1))), c.alone+"|"; got != want {
				t.Errorf("P14.1: Live of Op %d with %d in other fields: %s, want %s", c.op, far, got, want)
			}
		}
	}
}

// unnamed has a number in the fields that the table does not name.
func unnamed(i rtl.Instr, n int) rtl.Instr {
	reads := map[int]string{rtl.Copy: "A", rtl.Un: "A", rtl.Bin: "AB", rtl.Load: "A", rtl.Store: "AB", rtl.Cond: "ABT", rtl.Return: "A", rtl.Out: "A", rtl.Call: "R"}[i.Op]
	if !strings.Contains(reads, "A") {
		i.A = n
	}
	if !strings.Contains(reads, "B") {
		i.B = n
	}
	if !strings.Contains(reads, "R") {
		i.Args = []int{n, n}
	}
	if !strings.Contains(reads, "T") {
		i.T = n
	}
	switch i.Op {
	case rtl.Nop, rtl.Store, rtl.Cond, rtl.Return, rtl.Out:
		i.D = n
	}
	if i.Op == rtl.Return {
		i.S = n
	}
	return i
}
