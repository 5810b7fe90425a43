package rtlgen

import (
	"slices"

	"plumbob/core"
	"plumbob/rtl"
)

// statement writes one, behind which it goes on at a node.
func (w *writer) statement(n *core.Node, next int) int {
	switch n.Kind {
	case core.Block:
		return w.block(n, next)
	case core.Choice:
		return w.choice(n, next)
	case core.Loop:
		return w.loop(n, next)
	case core.Breaking:
		return w.after
	case core.Continuing:
		return w.again
	case core.Set:
		return w.value(n.Parts[0], n.N, w.spare, next)
	case core.Alone:
		return w.alone(n, next)
	case core.Answer:
		return w.operation(instruction(n), n.Parts, w.spare)
	}
	i := instruction(n)
	i.S = next
	return w.operation(i, n.Parts, w.spare)
}

func (w *writer) block(n *core.Node, next int) int {
	for _, part := range slices.Backward(n.Parts) {
		next = w.statement(part, next)
	}
	return next
}

func (w *writer) choice(n *core.Node, next int) int {
	yes, no := w.statement(n.Parts[1], next), next
	if len(n.Parts) > 2 {
		no = w.statement(n.Parts[2], next)
	}
	return w.branch(n.Parts[0], w.spare, yes, no)
}

// loop writes a Nop to which the body goes back, since the test in front of it is not yet written.
func (w *writer) loop(n *core.Node, next int) int {
	head := w.write(rtl.Instr{Op: rtl.Nop})
	after, again := w.after, w.again
	w.after, w.again = next, head
	body := w.statement(n.Parts[1], head)
	w.after, w.again = after, again
	test := w.branch(n.Parts[0], w.spare, body, next)
	w.code[head].S = test // in a statement of its own, since writing the test may move the code
	return head
}

// alone writes what evaluates an expression whose value is dropped.
func (w *writer) alone(n *core.Node, next int) int {
	if part := n.Parts[0]; part.Kind == core.Call {
		return w.call(part, none, w.spare, next)
	}
	return w.values(n.Parts, w.places(n.Parts, w.spare), next)
}
