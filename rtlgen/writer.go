package rtlgen

import (
	"slices"

	"plumbob/core"
	"plumbob/rtl"
)

// none stands where an instruction has no register.
const none = -1

// writer writes a function's nodes from its end to its beginning: what goes on at a node is written behind it, and what it writes is told by the node where that begins. A variable has the register of its number; behind those stand spare ones, for what an expression holds while it is evaluated.
type writer struct {
	code  []rtl.Instr
	spare int // the first spare register
	regs  int // how many there are

	// Of the innermost loop:
	after int // where it goes on when the loop ends
	again int // where the next test begins
}

// graph makes a function one.
func graph(f *core.Function) rtl.Func {
	w := &writer{spare: f.Vars, regs: f.Vars}
	end := w.write(rtl.Instr{Op: rtl.Return, A: none})
	made := rtl.Func{Name: f.Name, Frame: f.Frame, Entry: w.statement(f.Body, end)}
	for r := range f.Params {
		made.Params = append(made.Params, r)
	}
	made.Regs, made.Code = w.regs, w.code
	return compacted(made)
}

// write writes a node, and tells its number.
func (w *writer) write(i rtl.Instr) int {
	w.code = append(w.code, i)
	return len(w.code) - 1
}

// instruction is the one that a node comes to in the end, without its operands, its target, and where it goes on.
func instruction(n *core.Node) rtl.Instr {
	switch n.Kind {
	case core.Number:
		return rtl.Instr{Op: rtl.Const, K: n.K}
	case core.Local:
		return rtl.Instr{Op: rtl.Frame, K: int64(n.N)}
	case core.Global:
		return rtl.Instr{Op: rtl.Global, Sub: n.N}
	case core.Input:
		return rtl.Instr{Op: rtl.In}
	case core.Unary:
		return rtl.Instr{Op: rtl.Un, Sub: n.Op}
	case core.Binary:
		return rtl.Instr{Op: rtl.Bin, Sub: n.Op}
	case core.Fixed:
		return rtl.Instr{Op: rtl.Bin, Sub: n.Op, B: none, K: n.K}
	case core.Load:
		return rtl.Instr{Op: rtl.Load, Sub: n.Op, K: n.K}
	case core.Store:
		return rtl.Instr{Op: rtl.Store, Sub: n.Op, K: n.K}
	case core.Output:
		return rtl.Instr{Op: rtl.Out}
	}
	return rtl.Instr{Op: rtl.Return, A: none}
}

// operation writes an instruction whose operands are some parts, behind what gives them their values.
func (w *writer) operation(i rtl.Instr, parts []*core.Node, spare int) int {
	places := w.places(parts, spare)
	if len(places) > 0 {
		i.A = places[0]
	}
	if len(places) > 1 {
		i.B = places[1]
	}
	return w.values(parts, places, w.write(i))
}

// places tells the registers in which parts have their values, when all are evaluated: a variable its own, another one a spare one.
func (w *writer) places(parts []*core.Node, spare int) []int {
	var l []int
	for _, part := range parts {
		if part.Kind == core.Variable {
			l = append(l, part.N)
			continue
		}
		l = append(l, spare)
		spare++
		w.regs = max(w.regs, spare)
	}
	return l
}

// values writes what gives parts' places their values, in their order: each may use its own place and the spare ones behind it, since none of those ahead stands there.
func (w *writer) values(parts []*core.Node, places []int, next int) int {
	for i, part := range slices.Backward(parts) {
		next = w.value(part, places[i], places[i], next)
	}
	return next
}
