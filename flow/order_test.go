package flow

import (
	"testing"

	"plumbob/api"
	"plumbob/rtl"
)

// fork is a branch that nothing is known of.
func fork(s, t int) rtl.Instr { return test(api.Eq, 0, 0, s, t) }

// TestOrderAndDominators has graphs of each kind.
func TestOrderAndDominators(t *testing.T) {
	end := leave(-1)
	for _, c := range []struct {
		name              string
		f                 rtl.Func
		order, dominators string
	}{
		{"one node", function(1, end), "0", "0"},
		{"a row", function(1, nop(1), nop(2), end), "0 1 2", "0|0 1|0 1 2"},
		{"a row turned round", entered(function(1, end, nop(0), nop(1)), 2), "2 1 0", "0 1 2|1 2|2"},
		{"a row in any order", entered(function(1, nop(3), nop(0), end, nop(2)), 1), "1 0 3 2", "0 1|1|0 1 2 3|0 1 3"},
		{"nodes not reached", entered(function(1, nop(2), nop(2), end, fork(1, 3)), 1), "1 2", "|1|1 2|"},
		{"a fork", function(1, fork(1, 2), end, end), "0 2 1", "0|0 1|0 2"},
		{"a fork the other way", function(1, fork(2, 1), end, end), "0 1 2", "0|0 1|0 2"},
		{"two ways that meet", function(1, fork(1, 2), nop(3), nop(3), end), "0 2 1 3", "0|0 1|0 2|0 3"},
		{"S that is also behind T", function(1, fork(1, 2), end, nop(1)), "0 2 1", "0|0 1|0 2"},
		{"T that is also behind S", function(1, fork(1, 2), nop(2), end), "0 1 2", "0|0 1|0 2"},
		{"S and T the same node", function(1, fork(1, 1), end), "0 1", "0|0 1"},
		{"forks within S and T", function(1, fork(1, 2), fork(3, 4), fork(5, 6), end, end, end, end), "0 2 6 5 1 4 3", "0|0 1|0 2|0 1 3|0 1 4|0 2 5|0 2 6"},
		{"forks that meet within one another", function(1, fork(1, 5), fork(2, 3), nop(4), nop(4), nop(6), nop(6), end), "0 5 1 3 2 4 6", "0|0 1|0 1 2|0 1 3|0 1 4|0 5|0 6"},
		{"a loop", function(1, nop(1), fork(2, 3), nop(1), end), "0 1 3 2", "0|0 1|0 1 2|0 1 3"},
		{"a loop, left at S", function(1, nop(1), fork(3, 2), nop(1), end), "0 1 2 3", "0|0 1|0 1 2|0 1 3"},
		{"a loop left from its middle", function(1, fork(1, 4), fork(2, 3), nop(0), nop(4), end), "0 1 3 4 2", "0|0 1|0 1 2|0 1 3|0 4"},
		{"two loops within one another", function(1, fork(1, 5), fork(2, 4), fork(3, 1), nop(1), nop(0), end), "0 5 1 4 2 3", "0|0 1|0 1 2|0 1 2 3|0 1 4|0 5"},
		{"a loop with two ways in", function(1, fork(1, 2), fork(2, 3), nop(1), end), "0 1 3 2", "0|0 1|0 2|0 1 3"},
		{"a ring", function(1, nop(1), nop(2), nop(0)), "0 1 2", "0|0 1|0 1 2"},
		{"a ring, entered elsewhere", entered(function(1, nop(1), nop(2), nop(0)), 2), "2 0 1", "0 2|0 1 2|2"},
		{"one node that goes on at itself", function(1, nop(0)), "0", "0"},
		{"one fork that goes on at itself", function(1, fork(0, 0)), "0", "0"},
		{"a fork that goes on at itself first", function(1, fork(0, 1), end), "0 1", "0|0 1"},
		{"a node that goes on at itself behind another", function(1, nop(1), nop(1)), "0 1", "0|0 1"},
		{"the entry gone back to", entered(function(1, nop(2), end, fork(0, 1)), 2), "2 1 0", "0 2|1 2|2"},
		{"the entry gone back to from each", function(1, fork(1, 2), fork(0, 2), fork(1, 0)), "0 1 2", "0|0 1|0 2"},
		{"a known branch, of which both ways count", function(1, constant(0, 0, 1), fork(2, 3), end, end), "0 1 3 2", "0|0 1|0 1 2|0 1 3"},
		{"a return whose S and T are nodes", function(1, rtl.Instr{Op: rtl.Return, A: -1, S: 1, T: 2}, end, end), "0", "0||"},
		{"T of one that is no branch", function(1, rtl.Instr{Op: rtl.Nop, S: 2, T: 1}, end, end), "0 2", "0||0 2"},
		{"a ladder", function(1, fork(1, 2), fork(3, 4), fork(3, 4), fork(5, 6), fork(5, 6), end, end), "0 2 1 4 3 6 5", "0|0 1|0 2|0 3|0 4|0 5|0 6"},
	} {
		if got := tellOrder(t, c.f); got != c.order {
			t.Errorf("P14.1: Order of %s: %s, want %s", c.name, got, c.order)
		}
		if got := tellDominators(t, c.f); got != c.dominators {
			t.Errorf("P14.1: Dominators of %s: %s, want %s", c.name, got, c.dominators)
		}
	}
}

// TestEach: all of an instruction is given, and what is done to it makes no difference later.
func TestEach(t *testing.T) {
	args := []int{2, 1, 2, 9}[:3]
	f := entered(function(3, leave(1), rtl.Instr{Op: rtl.Call, Sub: 7, A: -5, B: 9, D: 2, K: 11, Args: args, S: 2, T: 33}, nop(0), nop(1)), 1)
	want := dump(f)
	each := Each(f)
	for range 2 {
		var nodes []int
		for n, i := range each {
			f.Code[n] = i
			nodes = append(nodes, n)
			if len(i.Args) > 0 {
				if dump(f) != want {
					t.Errorf("P14.1: Each: %s, want %s", dump(f), want)
				}
				clear(i.Args[:cap(i.Args)])
			}
		}
		if len(nodes) != 3 || nodes[0] != 1 || nodes[1] != 2 || nodes[2] != 0 {
			t.Errorf("P14.1: Each: nodes %v", nodes)
		}
	}
	// What is done to the function behind the call makes no difference, either.
	g := function(3, call(-1, 1, 1, 2), leave(2), leave(1))
	each = Each(g)
	again := g
	again.Code = []rtl.Instr{call(-1, 1, 1, 2), leave(2), leave(1)}
	g.Code[0].Args[0] = 77
	g.Code[0].S = 2
	at := 0
	for n, i := range each {
		if h := function(3, i); n != at || dump(h) != dump(function(3, again.Code[n])) {
			t.Errorf("R4: Each: %d, %+v", n, i)
		}
		at++
	}
	if at != 2 {
		t.Errorf("R4: Each: %d nodes", at)
	}
	// Two that go through it at once do not meet.
	count := 0
	for range each {
		for range each {
			count++
		}
	}
	if count != 4 {
		t.Errorf("R8: Each, gone through twice at once: %d", count)
	}
}
