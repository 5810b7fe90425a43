package alloc

import (
	"fmt"
	"math/rand"
	"slices"
	"testing"

	"plumbob/api"
	"plumbob/rtl"
)

const (
	lowest  = -1 << 63
	highest = 1<<63 - 1
)

// What the chapters say, written out once more.
var (
	order    = []int{7, 6, 2, 1, 8, 9}
	machines = []int{0, 1, 2, 3, 5, 6, 7, 8, 9, 12, 13, 14, 15}
	keeping  = []int{3, 5, 12, 13, 14, 15}
)

func isKeeping(loc int) bool { return loc >= 16 || slices.Contains(keeping, loc) }

func nothing(s int) rtl.Instr   { return rtl.Instr{Op: rtl.Nop, S: s} }
func copied(a, d int) rtl.Instr { return rtl.Instr{Op: rtl.Copy, A: a, D: d} }
func input(d int) rtl.Instr     { return rtl.Instr{Op: rtl.In, D: d} }
func output(a int) rtl.Instr    { return rtl.Instr{Op: rtl.Out, A: a} }
func leave(a int) rtl.Instr     { return rtl.Instr{Op: rtl.Return, A: a} }

func constant(d int, k int64) rtl.Instr { return rtl.Instr{Op: rtl.Const, D: d, K: k} }
func frame(d int) rtl.Instr             { return rtl.Instr{Op: rtl.Frame, D: d} }
func store(chunk, a, b int) rtl.Instr   { return rtl.Instr{Op: rtl.Store, Sub: chunk, A: a, B: b} }
func un(a, d int) rtl.Instr             { return rtl.Instr{Op: rtl.Un, Sub: api.Neg, A: a, D: d} }
func add(a, b, d int) rtl.Instr         { return rtl.Instr{Op: rtl.Bin, Sub: api.Add, A: a, B: b, D: d} }
func call(d int, args ...int) rtl.Instr { return callOf(1, d, args...) }

func callOf(number, d int, args ...int) rtl.Instr {
	return rtl.Instr{Op: rtl.Call, Sub: number, Args: args, D: d}
}

// fixed is an operation on a register and a constant.
func fixed(sub, a int, k int64, d int) rtl.Instr {
	return rtl.Instr{Op: rtl.Bin, Sub: sub, A: a, B: -1, K: k, D: d}
}

// test is a branch: at the next node, if a register has a number, else at t.
func test(a int, k int64, t int) rtl.Instr {
	return rtl.Instr{Op: rtl.Cond, Sub: api.Eq, A: a, B: -1, K: k, T: t}
}

// row gives each instruction the next node to go on at.
func row(code ...rtl.Instr) []rtl.Instr {
	for n := range code {
		code[n].S = n + 1
	}
	return code
}

// to has an instruction go on at a node.
func to(s int, i rtl.Instr) rtl.Instr {
	i.S = s
	return i
}

func function(regs int, code ...rtl.Instr) rtl.Func {
	return rtl.Func{Name: "f", Regs: regs, Frame: 16, Code: code}
}

// with is a function with parameters.
func with(f rtl.Func, params ...int) rtl.Func {
	f.Params = params
	return f
}

// entered is one that begins elsewhere.
func entered(f rtl.Func, entry int) rtl.Func {
	f.Entry = entry
	return f
}

// program has these functions, main first, and two globals.
func program(functions ...rtl.Func) rtl.Prog {
	return rtl.Prog{Globals: []int{16, 8}, Funcs: functions}
}

// dump tells all of a value; lists that are nil and empty ones alike.
func dump(a any) string { return fmt.Sprintf("%+v", a) }

func l(numbers ...int64) []int64 { return numbers }

// numbers are those below one.
func numbers(count int) []int {
	list := make([]int, count)
	for n := range list {
		list[n] = n
	}
	return list
}

// edges are numbers at which something turns.
var edges = []int64{0, 1, 2, 3, 7, 8, 63, 64, 127, 128, 255, 1 << 31, 1 << 32, 1 << 62, highest, -1, -2, -7, -8, -128, -129, -1 << 31, lowest}

// somes are numbers by chance.
func somes(r *rand.Rand, count int) []int64 {
	list := []int64{}
	for range count {
		list = append(list, edges[r.Intn(len(edges))])
	}
	return list
}

// shuffled has numbers in another order.
func shuffled(r *rand.Rand, l []int) []int {
	l = slices.Clone(l)
	r.Shuffle(len(l), func(a, b int) { l[a], l[b] = l[b], l[a] })
	return l
}

// coloured is what Colour answers; it asks that it is valid, the same once more, and that nothing is changed.
func coloured(t *testing.T, f rtl.Func) []int {
	t.Helper()
	before := dump(f)
	giving, e := Colour(f)
	if e != api.OK || !Valid(f, giving) {
		t.Fatalf("P17.1: Colour of %.3000s: %.500v (%d)", before, giving, e)
	}
	if again, _ := Colour(f); !slices.Equal(again, giving) {
		t.Fatalf("R5: Colour of %.3000s: %.500v, and once more %.500v", before, giving, again)
	}
	if dump(f) != before {
		t.Fatalf("R4: Colour of %.3000s: it is changed: %.3000s", before, dump(f))
	}
	return giving
}
