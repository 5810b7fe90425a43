package linear_test

import (
	"fmt"
	"math/rand"
	"slices"
	"strings"
	"testing"

	"plumbob/api"
	"plumbob/linear"
	"plumbob/rtl"
	"plumbob/trace"
)

const (
	lowest  = -1 << 63
	highest = 1<<63 - 1
)

// What chapter 16 says, written out once more.
var (
	order    = []int{7, 6, 2, 1, 8, 9}
	kept     = []int{3, 5, 12, 13, 14, 15}
	reserved = []int{4, 10, 11}
)

// nameable are the locations below some number that may be named.
func nameable(below int) []int {
	var l []int
	for loc := range below {
		if !slices.Contains(reserved, loc) {
			l = append(l, loc)
		}
	}
	return l
}

func l(numbers ...int64) []int64 { return numbers }

func nothing(s int) rtl.Instr           { return rtl.Instr{Op: rtl.Nop, S: s} }
func constant(d int, k int64) rtl.Instr { return rtl.Instr{Op: rtl.Const, D: d, K: k} }
func move(a, d int) rtl.Instr           { return rtl.Instr{Op: rtl.Copy, A: a, D: d} }
func input(d int) rtl.Instr             { return rtl.Instr{Op: rtl.In, D: d} }
func output(a int) rtl.Instr            { return rtl.Instr{Op: rtl.Out, A: a} }
func leave() rtl.Instr                  { return rtl.Instr{Op: rtl.Return} }

// call is one of a function with so many parameters.
func call(number, params int) rtl.Instr {
	return rtl.Instr{Op: rtl.Call, Sub: number, Args: slices.Clone(order[:params])}
}

// fixed is an operation on a location and a constant.
func fixed(sub, a int, k int64, d int) rtl.Instr {
	return rtl.Instr{Op: rtl.Bin, Sub: sub, A: a, B: -1, K: k, D: d}
}

// test is a branch: at s, if a location has more than a number, else at t.
func test(a int, k int64, s, t int) rtl.Instr {
	return rtl.Instr{Op: rtl.Cond, Sub: api.Gt, A: a, B: -1, K: k, S: s, T: t}
}

// to has an instruction go on at a node.
func to(s int, i rtl.Instr) rtl.Instr {
	i.S = s
	return i
}

// row gives each instruction the next node to go on at.
func row(code ...rtl.Instr) []rtl.Instr {
	for n := range code {
		code[n].S = n + 1
	}
	return code
}

// function has so many parameters, and nodes as they are.
func function(params int, code ...rtl.Instr) rtl.Func {
	return rtl.Func{Name: "f", Params: slices.Clone(order[:params]), Regs: 20, Code: code}
}

// entered is one that begins elsewhere.
func entered(entry int, f rtl.Func) rtl.Func {
	f.Entry = entry
	return f
}

// framed is one with so many bytes.
func framed(bytes int, f rtl.Func) rtl.Func {
	f.Frame = bytes
	return f
}

// program has these functions, main first, and two globals.
func program(functions ...rtl.Func) rtl.Prog {
	return rtl.Prog{Globals: []int{16, 0}, Funcs: functions}
}

// flat is what Flatten answers. It asks that it is the same once more, and that nothing is changed.
func flat(t *testing.T, p rtl.Prog) *linear.Prog {
	t.Helper()
	before := dump(p)
	made, e := linear.Flatten(p)
	if e != api.OK || made == nil {
		t.Fatalf("P18.1: Flatten of %.3000s: %d", rtl.Text(p), e)
	}
	if again, _ := linear.Flatten(p); again.Text() != made.Text() {
		t.Fatalf("R5: Flatten of %.3000s: %.3000s, and once more %.3000s", rtl.Text(p), made.Text(), again.Text())
	}
	if dump(p) != before {
		t.Fatalf("R4: Flatten of %.3000s: it is changed: %.3000s", before, dump(p))
	}
	return made
}

// dump tells all of a value; lists that are nil and empty ones alike.
func dump(a any) string { return fmt.Sprintf("%+v", a) }

// told is all that a run came to: events and end, leaks, steps.
func told(r api.Run) string {
	var leaks []string
	for _, k := range r.Leaks {
		leaks = append(leaks, fmt.Sprintf("%s%d,%d", []string{"?", "branch", "addr", "divide", "call"}[k.Kind], k.A, k.B))
	}
	return strings.ReplaceAll(trace.Text(r), "\n", "|") + strings.Join(append(leaks, fmt.Sprint(r.Steps)), " ")
}

// edges are numbers at which something turns.
var edges = []int64{0, 1, 2, 3, 7, 8, 63, 64, 127, 128, 255, 1 << 31, 1 << 32, 1 << 62, highest, -1, -2, -7, -8, -128, -129, -1 << 31, lowest}

// somes are numbers by chance.
func somes(r *rand.Rand, count int) []int64 {
	list := []int64{}
	for range count {
		list = append(list, edges[r.Intn(len(edges))])
	}
	return list
}

// shuffled has numbers in another order.
func shuffled(r *rand.Rand, l []int) []int {
	l = slices.Clone(l)
	r.Shuffle(len(l), func(a, b int) { l[a], l[b] = l[b], l[a] })
	return l
}

// in tells the location of a register: one of a list, or a slot behind those, if there are more.
func in(l []int) func(int) int {
	return func(register int) int {
		if register < len(l) {
			return l[register]
		}
		return 40 + register
	}
}
