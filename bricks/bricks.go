// Package bricks has what programs over locations (chapter 16) are written of by hand, for tests, and tells what a run comes to.
package bricks

import (
	"slices"
	"strconv"
	"strings"

	"plumbob/api"
	"plumbob/rtl"
	"plumbob/trace"
)

// Order tells where so many parameters stand: chapter 16, written out once more.
func Order(count int) []int { return []int{7, 6, 2, 1, 8, 9}[:count] }

// Kept are the registers that a call keeps.
func Kept() []int { return []int{3, 5, 12, 13, 14, 15} }

// Reserved are those that nothing names.
func Reserved() []int { return []int{4, 10, 11} }

// Nameable are the locations below some number that may be named.
func Nameable(below int) []int {
	var l []int
	for loc := range below {
		if !slices.Contains(Reserved(), loc) {
			l = append(l, loc)
		}
	}
	return l
}

// In tells the location of a register: one of a list, or a slot behind those, if there are more.
func In(l []int) func(int) int {
	return func(register int) int {
		if register < len(l) {
			return l[register]
		}
		return 40 + register
	}
}

// Nothing is a Nop.
func Nothing(s int) rtl.Instr { return rtl.Instr{Op: rtl.Nop, S: s} }

// Constant gives a location a number.
func Constant(d int, k int64) rtl.Instr { return rtl.Instr{Op: rtl.Const, D: d, K: k} }

// Move copies.
func Move(a, d int) rtl.Instr { return rtl.Instr{Op: rtl.Copy, A: a, D: d} }

// Input gives a location what comes in.
func Input(d int) rtl.Instr { return rtl.Instr{Op: rtl.In, D: d} }

// Output lets out what a location has.
func Output(a int) rtl.Instr { return rtl.Instr{Op: rtl.Out, A: a} }

// Leave is a Return.
func Leave() rtl.Instr { return rtl.Instr{Op: rtl.Return} }

// Call is one of a function with so many parameters.
func Call(number, params int) rtl.Instr {
	return rtl.Instr{Op: rtl.Call, Sub: number, Args: Order(params)}
}

// Fixed is an operation on a location and a constant.
func Fixed(sub, a int, k int64, d int) rtl.Instr {
	return rtl.Instr{Op: rtl.Bin, Sub: sub, A: a, B: -1, K: k, D: d}
}

// Both is one on two locations.
func Both(sub, a, b, d int) rtl.Instr { return rtl.Instr{Op: rtl.Bin, Sub: sub, A: a, B: b, D: d} }

// Test is a branch: at s, if a location has more than a number, else at t.
func Test(a int, k int64, s, t int) rtl.Instr {
	return rtl.Instr{Op: rtl.Cond, Sub: api.Gt, A: a, B: -1, K: k, S: s, T: t}
}

// Load reads so many bytes behind where a location points.
func Load(chunk, a int, k int64, d int) rtl.Instr {
	return rtl.Instr{Op: rtl.Load, Sub: chunk, A: a, K: k, D: d}
}

// Store writes them.
func Store(chunk, a int, k int64, b int) rtl.Instr {
	return rtl.Instr{Op: rtl.Store, Sub: chunk, A: a, K: k, B: b}
}

// Global points to a global.
func Global(number int, k int64, d int) rtl.Instr {
	return rtl.Instr{Op: rtl.Global, Sub: number, K: k, D: d}
}

// Home points to the call's block.
func Home(k int64, d int) rtl.Instr { return rtl.Instr{Op: rtl.Frame, K: k, D: d} }

// To has an instruction go on at a node.
func To(s int, i rtl.Instr) rtl.Instr {
	i.S = s
	return i
}

// Row gives each instruction the next node to go on at.
func Row(code ...rtl.Instr) []rtl.Instr {
	for n := range code {
		code[n].S = n + 1
	}
	return code
}

// Function has so many parameters, and nodes as they are.
func Function(params int, code ...rtl.Instr) rtl.Func {
	return rtl.Func{Name: "f", Params: Order(params), Regs: 20, Code: code}
}

// Named is one with a name.
func Named(name string, f rtl.Func) rtl.Func {
	f.Name = name
	return f
}

// Entered is one that begins elsewhere.
func Entered(entry int, f rtl.Func) rtl.Func {
	f.Entry = entry
	return f
}

// Framed is one with so many bytes.
func Framed(bytes int, f rtl.Func) rtl.Func {
	f.Frame = bytes
	return f
}

// Program has these functions, main first, and two globals.
func Program(functions ...rtl.Func) rtl.Prog {
	return rtl.Prog{Globals: []int{16, 0}, Funcs: functions}
}

// Told is all that a run came to: events and end, leaks, steps.
func Told(r api.Run) string {
	l := []string{strings.ReplaceAll(trace.Text(r), "\n", "|")}
	for _, k := range r.Leaks {
		l = append(l, []string{"?", "branch", "addr", "divide", "call"}[k.Kind], strconv.FormatInt(k.A, 10), ",", strconv.FormatInt(k.B, 10), " ")
	}
	return strings.Join(append(l, strconv.Itoa(r.Steps)), "")
}

// Edges are numbers at which something turns.
func Edges() []int64 {
	return []int64{0, 1, 2, 3, 7, 8, 63, 64, 127, 128, 255, 1 << 31, 1 << 32, 1 << 62, 1<<63 - 1, -1, -2, -7, -8, -128, -129, -1 << 31, -1 << 63}
}

// Some are so many of them, as they are picked.
func Some(pick func(int) int, count int) []int64 {
	list, edges := []int64{}, Edges()
	for range count {
		list = append(list, edges[pick(len(edges))])
	}
	return list
}

// Shuffled has numbers in another order.
func Shuffled(pick func(int) int, l []int) []int {
	l = slices.Clone(l)
	for n := range l {
		at := pick(n + 1)
		l[n], l[at] = l[at], l[n]
	}
	return l
}
