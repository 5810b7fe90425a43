package opt

import (
	"fmt"
	"math/rand"
	"slices"
	"testing"

	"plumbob/api"
	"plumbob/rtl"
)

const (
	lowest  = -1 << 63
	highest = 1<<63 - 1
)

func nothing(s int) rtl.Instr              { return rtl.Instr{Op: rtl.Nop, S: s} }
func move(a, d, s int) rtl.Instr           { return rtl.Instr{Op: rtl.Copy, A: a, D: d, S: s} }
func input(d, s int) rtl.Instr             { return rtl.Instr{Op: rtl.In, D: d, S: s} }
func output(a, s int) rtl.Instr            { return rtl.Instr{Op: rtl.Out, A: a, S: s} }
func leave(a int) rtl.Instr                { return rtl.Instr{Op: rtl.Return, A: a} }
func call(d, s int, args ...int) rtl.Instr { return rtl.Instr{Op: rtl.Call, Args: args, D: d, S: s} }

func constant(d int, k int64, s int) rtl.Instr {
	return rtl.Instr{Op: rtl.Const, D: d, K: k, S: s}
}

// un is an operation on one register.
func un(sub, a, d, s int) rtl.Instr { return rtl.Instr{Op: rtl.Un, Sub: sub, A: a, D: d, S: s} }

// bin is one on two registers.
func bin(sub, a, b, d, s int) rtl.Instr {
	return rtl.Instr{Op: rtl.Bin, Sub: sub, A: a, B: b, D: d, S: s}
}

// fixed is one on a register and a constant.
func fixed(sub, a int, k int64, d, s int) rtl.Instr {
	return rtl.Instr{Op: rtl.Bin, Sub: sub, A: a, B: -1, K: k, D: d, S: s}
}

func load(chunk, a int, k int64, d, s int) rtl.Instr {
	return rtl.Instr{Op: rtl.Load, Sub: chunk, A: a, K: k, D: d, S: s}
}

func store(chunk, a int, k int64, b, s int) rtl.Instr {
	return rtl.Instr{Op: rtl.Store, Sub: chunk, A: a, K: k, B: b, S: s}
}

func global(sub int, k int64, d, s int) rtl.Instr {
	return rtl.Instr{Op: rtl.Global, Sub: sub, K: k, D: d, S: s}
}

func frame(k int64, d, s int) rtl.Instr { return rtl.Instr{Op: rtl.Frame, K: k, D: d, S: s} }

// cond is a branch by two registers.
func cond(sub, a, b, s, t int) rtl.Instr {
	return rtl.Instr{Op: rtl.Cond, Sub: sub, A: a, B: b, S: s, T: t}
}

// test is one by a register and a constant.
func test(sub, a int, k int64, s, t int) rtl.Instr {
	return rtl.Instr{Op: rtl.Cond, Sub: sub, A: a, B: -1, K: k, S: s, T: t}
}

// row gives each instruction the next node to go on at.
func row(code ...rtl.Instr) []rtl.Instr {
	for n := range code {
		if code[n].Op != rtl.Return {
			code[n].S = n + 1
		}
	}
	return code
}

// function is one that begins at node 0, with eight registers.
func function(code ...rtl.Instr) rtl.Func {
	return rtl.Func{Name: "f", Params: []int{7, 6}, Regs: 8, Frame: 16, Code: code}
}

// entered is one that begins elsewhere.
func entered(f rtl.Func, entry int) rtl.Func {
	f.Entry = entry
	return f
}

// dump tells all of a function; lists that are nil and empty ones alike.
func dump(f rtl.Func) string { return fmt.Sprintf("%+v", f) }

// alone is a program of one function, and what it may call and name.
func alone(f rtl.Func) rtl.Prog {
	return rtl.Prog{Globals: []int{16, 16}, Funcs: []rtl.Func{f}}
}

// changes are those instructions of a function that are no more what they were, by their nodes.
type changes map[int]rtl.Instr

// with is a function with other instructions at some nodes.
func with(f rtl.Func, c changes) rtl.Func {
	f.Code = slices.Clone(f.Code)
	for n, i := range c {
		f.Code[n] = i
	}
	return f
}

// pass is one of Fold, Cse, Dead.
type pass struct {
	name string
	call func(rtl.Func) (rtl.Func, api.Errno)
}

func passes() []pass { return []pass{{"Fold", Fold}, {"Cse", Cse}, {"Dead", Dead}} }

// passCase is a function, and what a pass changes of it.
type passCase struct {
	name string
	f    rtl.Func
	want changes
}

// answer is what a pass answers; it asks that it is the same once more, and that nothing is changed.
func (p pass) answer(t *testing.T, f rtl.Func) rtl.Func {
	t.Helper()
	before := dump(f)
	got, e := p.call(f)
	if e != api.OK || !rtl.Right(got) {
		t.Fatalf("P15.1: %s of %s: %s (%d)", p.name, before, dump(got), e)
	}
	if again, _ := p.call(f); dump(again) != dump(got) {
		t.Fatalf("R5: %s of %s: %s, and once more %s", p.name, before, dump(got), dump(again))
	}
	if dump(f) != before {
		t.Fatalf("R4: %s of %s: it is changed: %s", p.name, before, dump(f))
	}
	return got
}

// comes asks what a pass comes to, all fields of all that it does not change included.
func (p pass) comes(t *testing.T, l []passCase) {
	t.Helper()
	for _, c := range l {
		want := dump(with(c.f, c.want))
		if got := p.answer(t, c.f); dump(got) != want {
			t.Errorf("P15.1: %s of %s: %s\nwant %s\nof   %s", p.name, c.name, dump(got), want, dump(c.f))
		}
	}
}

// edges are numbers at which something turns.
var edges = []int64{0, 1, 2, 3, 7, 8, 63, 64, 127, 128, 255, 1 << 31, 1 << 32, 1 << 62, highest, -1, -2, -7, -8, -128, -129, -1 << 31, lowest}

// somes are numbers by chance.
func somes(r *rand.Rand, count int) []int64 {
	list := []int64{}
	for range count {
		list = append(list, edges[r.Intn(len(edges))])
	}
	return list
}
