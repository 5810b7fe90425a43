package graphs

import (
	"slices"
	"strconv"

	"plumbob/api"
	"plumbob/rtl"
)

// Case is a function at an edge of what is well formed by itself, whatever it calls and whatever globals there are.
type Case struct {
	Name    string
	Func    rtl.Func
	IsRight bool
}

const (
	lowest  = -1 << 63
	highest = 1<<63 - 1
)

// leave is a node at which a function ends.
func leave() rtl.Instr { return rtl.Instr{Op: rtl.Return, A: none} }

// around is a function with three registers around some nodes.
func around(entry int, code ...rtl.Instr) rtl.Func {
	return rtl.Func{Name: "f", Params: []int{1, 0}, Regs: regs, Frame: 8, Entry: entry, Code: code}
}

// row is one with an instruction ahead of its end.
func row(i rtl.Instr) rtl.Func {
	i.S = 1
	return around(0, i, leave())
}

// named tells a number behind a name.
func named(name string, n int) string { return name + " " + strconv.Itoa(n) }

// Cases has functions that are right, and those that are wrong in one way each.
func Cases() []Case {
	return slices.Concat(registerCases(), optionalCases(), nodeCases(), subCases(), opCases(), sizeCases())
}

// registerCases has no register, or one that there is not, where one must be.
func registerCases() []Case {
	var l []Case
	for _, r := range []int{lowest, -2, -1, 3, highest} {
		for op := rtl.Nop; op <= rtl.Out; op++ {
			i := rtl.Instr{Op: op, Sub: right(op)}
			for _, field := range fields(op) {
				wrong := i
				switch {
				case field == 'A' && op != rtl.Return:
					wrong.A = r
				case field == 'B' && op == rtl.Store:
					wrong.B = r
				case field == 'D' && op != rtl.Call:
					wrong.D = r
				case field == 'R':
					wrong.Args = []int{0, r}
				default:
					continue
				}
				l = append(l, Case{named(named(string(field)+" of Op", op)+":", r), row(wrong), false})
			}
		}
		f := around(0, leave())
		f.Params = []int{0, r}
		l = append(l, Case{named("a parameter", r), f, false}, Case{named("a register not reached", r), around(0, leave(), rtl.Instr{Op: rtl.Const, D: r}), false})
	}
	return l
}

// right is a Sub that an Op may have.
func right(op int) int {
	switch op {
	case rtl.Un:
		return api.Neg
	case rtl.Bin:
		return api.Add
	case rtl.Cond:
		return api.Eq
	case rtl.Load, rtl.Store:
		return 4
	}
	return 0
}

// optionalCases has them where none may be.
func optionalCases() []Case {
	var l []Case
	for _, r := range []int{lowest, -2, -1, 0, 2, 3, highest} {
		isRight := r >= none && r < regs
		for _, i := range []rtl.Instr{{Op: rtl.Bin, Sub: api.Add, B: r}, {Op: rtl.Cond, Sub: api.Eq, B: r}, {Op: rtl.Call, D: r}, {Op: rtl.Return, A: r}} {
			l = append(l, Case{named(named("a register that may be none, of Op", i.Op)+":", r), row(i), isRight})
		}
	}
	return l
}

// nodeCases has nodes to go on at, and entries.
func nodeCases() []Case {
	var l []Case
	for _, n := range []int{lowest, -2, -1, 0, 1, 2, 3, highest} {
		isNode := n == 0 || n == 1
		choice := rtl.Instr{Op: rtl.Cond, Sub: api.Eq, S: n, T: 1}
		other := rtl.Instr{Op: rtl.Cond, Sub: api.Eq, S: 1, T: n}
		l = append(l,
			Case{named("S", n), around(0, rtl.Instr{Op: rtl.Nop, S: n}, leave()), isNode},
			Case{named("S not reached", n), around(1, rtl.Instr{Op: rtl.Nop, S: n}, leave()), isNode},
			Case{named("S of Cond", n), around(0, choice, leave()), isNode},
			Case{named("T of Cond", n), around(0, other, leave()), isNode},
			Case{named("the entry", n), around(n, leave(), leave()), isNode},
			Case{named("T of Nop, S and T of Return", n), around(0, rtl.Instr{Op: rtl.Nop, S: 1, T: n}, rtl.Instr{Op: rtl.Return, A: none, S: n, T: n}), true})
	}
	return l
}

// subCases has operations, and bytes of the frame; calls and globals are not asked.
func subCases() []Case {
	var l []Case
	for sub := -1; sub < 30; sub++ {
		isChunk := sub == 1 || sub == 4 || sub == 8
		l = append(l,
			Case{named("Un", sub), row(rtl.Instr{Op: rtl.Un, Sub: sub}), sub >= api.Neg && sub <= api.Ext32},
			Case{named("Bin", sub), row(rtl.Instr{Op: rtl.Bin, Sub: sub}), sub >= api.Add && sub <= api.Ge},
			Case{named("Cond", sub), row(rtl.Instr{Op: rtl.Cond, Sub: sub}), sub >= api.Eq && sub <= api.Ge},
			Case{named("Load", sub), row(rtl.Instr{Op: rtl.Load, Sub: sub}), isChunk},
			Case{named("Store", sub), row(rtl.Instr{Op: rtl.Store, Sub: sub}), isChunk},
			Case{named("a byte of the frame", sub), row(rtl.Instr{Op: rtl.Frame, K: int64(sub)}), sub >= 0 && sub <= 8},
			Case{named("a call of", sub), row(rtl.Instr{Op: rtl.Call, Sub: sub * 1000, Args: make([]int, sub+1), D: none}), true},
			Case{named("the global", sub), row(rtl.Instr{Op: rtl.Global, Sub: sub * 1000, K: int64(sub) << 40}), true})
	}
	return l
}

func opCases() []Case {
	var l []Case
	for _, op := range []int{lowest, -1, 0, 15, highest} {
		l = append(l, Case{named("Op", op), row(rtl.Instr{Op: op}), false}, Case{named("an Op not reached", op), around(0, leave(), rtl.Instr{Op: op}), false})
	}
	return l
}

// sizeCases has as much of each as there may be, and one more.
func sizeCases() []Case {
	one := []rtl.Instr{leave()}
	many := func(count int) []rtl.Instr { return slices.Repeat(one, count) }
	return []Case{
		{"nothing", rtl.Func{}, false}, {"no nodes", around(0), false}, {"one node alone", rtl.Func{Code: one}, true},
		{"parameters alike", rtl.Func{Params: []int{1, 0, 1}, Regs: 2, Code: one}, false},
		{"-1 registers", rtl.Func{Regs: -1, Code: one}, false}, {"5000 registers", rtl.Func{Regs: 5000, Code: one}, true}, {"5001 registers", rtl.Func{Regs: 5001, Code: one}, false}, {"the most registers", rtl.Func{Regs: highest, Code: one}, false},
		{"5000 nodes", rtl.Func{Code: many(5000)}, true}, {"5001 nodes", rtl.Func{Code: many(5001)}, false},
		{"a frame of -1", rtl.Func{Frame: -1, Code: one}, false}, {"a frame of 65536", rtl.Func{Frame: 65536, Code: one}, true}, {"a frame of 65537", rtl.Func{Frame: 65537, Code: one}, false},
	}
}

// Broken is a wild function in which one field, or two, have any number: many are not well formed.
func Broken(pick func(int) int) rtl.Func {
	some := func() int {
		return [...]int{lowest, -2, -1, 0, 1, 2, 3, 4, 8, 11, 15, 21, 26, 27, highest}[pick(15)]
	}
	f := Wild(pick, 2).Funcs[pick(2)]
	i := &f.Code[pick(len(f.Code))]
	switch pick(10) {
	case 0:
		i.Op = some()
	case 1:
		i.Sub = some()
	case 2:
		i.A = some()
	case 3:
		i.B = some()
	case 4:
		i.D = some()
	case 5:
		i.K = int64(some())
	case 6:
		i.Args = []int{some(), some()}
	case 7:
		i.S, i.T = some(), some()
	case 8:
		f.Entry = some()
	case 9:
		f.Regs, f.Frame = some(), some()
	}
	return f
}
