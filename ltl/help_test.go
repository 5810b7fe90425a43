package ltl_test

import (
	"fmt"
	"slices"
	"strings"
	"testing"

	"plumbob/api"
	"plumbob/ltl"
	"plumbob/rtl"
	"plumbob/trace"
)

const (
	lowest  = -1 << 63
	highest = 1<<63 - 1
)

// What the chapter says, written out once more.
var (
	order    = []int{7, 6, 2, 1, 8, 9}
	kept     = []int{3, 5, 12, 13, 14, 15}
	reserved = []int{4, 10, 11}
)

func isKept(loc int) bool  { return loc >= 16 || slices.Contains(kept, loc) }
func isLost(loc int) bool  { return !isKept(loc) }
func mayName(loc int) bool { return loc >= 0 && !slices.Contains(reserved, loc) }

// nameable are the locations below some number that may be named.
func nameable(below int) []int {
	var l []int
	for loc := range below {
		if mayName(loc) {
			l = append(l, loc)
		}
	}
	return l
}

func l(numbers ...int64) []int64 { return numbers }

func constant(d int, k int64) rtl.Instr { return rtl.Instr{Op: rtl.Const, D: d, K: k} }
func move(a, d int) rtl.Instr           { return rtl.Instr{Op: rtl.Copy, A: a, D: d} }
func output(a int) rtl.Instr            { return rtl.Instr{Op: rtl.Out, A: a} }
func leave() rtl.Instr                  { return rtl.Instr{Op: rtl.Return} }

// call is one of a function with so many parameters.
func call(number, params int) rtl.Instr {
	return rtl.Instr{Op: rtl.Call, Sub: number, Args: slices.Clone(order[:params])}
}

// fixed is an operation on a location and a constant.
func fixed(sub, a int, k int64, d int) rtl.Instr {
	return rtl.Instr{Op: rtl.Bin, Sub: sub, A: a, B: -1, K: k, D: d}
}

// test is a branch by a location and a constant.
func test(sub, a int, k int64, t int) rtl.Instr {
	return rtl.Instr{Op: rtl.Cond, Sub: sub, A: a, B: -1, K: k, T: t}
}

// function has so many parameters, and nodes that each go on at the next one.
func function(params int, code ...rtl.Instr) rtl.Func {
	code = slices.Clone(code)
	for n := range code {
		code[n].S = n + 1
	}
	return rtl.Func{Name: "f", Params: slices.Clone(order[:params]), Regs: 20, Code: code}
}

// program has these functions, main first, and two globals.
func program(functions ...rtl.Func) rtl.Prog {
	return rtl.Prog{Globals: []int{16, 0}, Funcs: functions}
}

// told is all that a run came to: events and end, leaks, steps.
func told(r api.Run) string {
	var leaks []string
	for _, k := range r.Leaks {
		leaks = append(leaks, fmt.Sprintf("%s%d,%d", []string{"?", "branch", "addr", "divide", "call"}[k.Kind], k.A, k.B))
	}
	return strings.ReplaceAll(trace.Text(r), "\n", "|") + strings.Join(append(leaks, fmt.Sprint(r.Steps)), " ")
}

// runs asks what a run comes to, once more, too; and that it goes on alike with each fuel, till it ends.
func runs(t *testing.T, what string, p rtl.Prog, args, world []int64, want string) {
	t.Helper()
	r, e := ltl.Run(p, args, world, 1000000)
	if e != api.OK || told(r) != want {
		t.Errorf("P16.1: %s: %s (%d), want %s", what, told(r), e, want)
		return
	}
	if again, _ := ltl.Run(p, args, world, 1000000); told(again) != want {
		t.Errorf("R5: %s: %s, and once more %s", what, want, told(again))
	}
	for fuel := range min(r.Steps, 200) {
		part, e := ltl.Run(p, args, world, fuel)
		if e != api.OK || part.Kind != api.Fuel || part.Exit != 0 || part.Steps != fuel || !begins(part.Events, r.Events) || !begins(part.Leaks, r.Leaks) {
			t.Errorf("P16.1: %s, with fuel %d: %s (%d), not as %s begins", what, fuel, told(part), e, want)
		}
	}
	if whole, _ := ltl.Run(p, args, world, r.Steps); told(whole) != want {
		t.Errorf("P16.1: %s, with fuel %d: %s, want %s", what, r.Steps, told(whole), want)
	}
}

func begins[E comparable](part, whole []E) bool {
	return len(part) <= len(whole) && slices.Equal(part, whole[:len(part)])
}
