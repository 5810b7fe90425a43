package rtlgen

import (
	"plumbob/core"
	"plumbob/rtl"
)

// value writes what gives a register an expression's value. That is written to it by the last instruction alone, so that it may be a variable that is read ahead of that.
func (w *writer) value(n *core.Node, target, spare, next int) int {
	switch n.Kind {
	case core.Variable:
		return w.move(n.N, target, next)
	case core.And, core.Or:
		return w.truth(n, target, spare, next)
	case core.Let:
		return w.value(n.Parts[0], n.N, spare, w.value(n.Parts[1], target, spare, next))
	case core.Call:
		return w.call(n, target, spare, next)
	}
	i := instruction(n)
	i.D, i.S = target, next
	return w.operation(i, n.Parts, spare)
}

// move writes what gives a register another one's value: nothing, if they are one.
func (w *writer) move(from, to, next int) int {
	if from == to {
		return next
	}
	return w.write(rtl.Instr{Op: rtl.Copy, A: from, D: to, S: next})
}

func (w *writer) call(n *core.Node, target, spare, next int) int {
	places := w.places(n.Parts, spare)
	return w.values(n.Parts, places, w.write(rtl.Instr{Op: rtl.Call, Sub: n.N, Args: places, D: target, S: next}))
}

// truth writes what gives a register 1 or 0, as branches say.
func (w *writer) truth(n *core.Node, target, spare, next int) int {
	yes := w.write(rtl.Instr{Op: rtl.Const, K: 1, D: target, S: next})
	no := w.write(rtl.Instr{Op: rtl.Const, D: target, S: next})
	return w.branch(n, spare, yes, no)
}

// branch writes what goes on at one of two nodes, as a comparison says, or several that And and Or put together.
func (w *writer) branch(n *core.Node, spare, yes, no int) int {
	switch n.Kind {
	case core.And:
		return w.branch(n.Parts[0], spare, w.branch(n.Parts[1], spare, yes, no), no)
	case core.Or:
		return w.branch(n.Parts[0], spare, yes, w.branch(n.Parts[1], spare, yes, no))
	}
	i := instruction(n)
	i.Op, i.S, i.T = rtl.Cond, yes, no
	return w.operation(i, n.Parts, spare)
}
