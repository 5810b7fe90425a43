package sel

import "plumbob/core"

// choose makes a node of cmin's one with operations chosen. It uses the fuel of all that it stands for. So no run comes further than cmin's with the same fuel, nor that one further than the source's: behind the greatest fuel it isn't known what the source leaks.
func choose(n *core.Node) *core.Node {
	var parts []*core.Node
	for _, p := range n.Parts {
		parts = append(parts, choose(p))
	}
	made := chosen(n, parts)
	made.Steps += uses(n) - uses(made)
	return made
}

// uses tells how much fuel a node uses with its parts, each once.
func uses(n *core.Node) int {
	steps := n.Steps
	for _, part := range n.Parts {
		steps += uses(part)
	}
	return steps
}

// chosen makes a node one of parts that are chosen.
func chosen(n *core.Node, parts []*core.Node) *core.Node {
	made := &core.Node{Kind: n.Kind, Op: n.Op, N: n.N, K: n.K, Parts: parts}
	switch n.Kind {
	case core.Keep:
		return parts[0]
	case core.Unary:
		return one(n.Op, parts[0])
	case core.Binary:
		return two(n.Op, parts[0], parts[1])
	case core.Both:
		return of(core.And, condition(parts[0]), condition(parts[1]))
	case core.Either:
		return of(core.Or, condition(parts[0]), condition(parts[1]))
	case core.Choice, core.Loop:
		parts[0] = condition(parts[0])
	case core.Load, core.Store:
		parts[0], made.K = address(parts[0])
	}
	return made
}

// address splits one into what a register holds and an offset.
func address(e *core.Node) (*core.Node, int64) {
	if isSum(e) {
		return e.Parts[0], e.K
	}
	return e, 0
}

func of(k core.Kind, parts ...*core.Node) *core.Node { return &core.Node{Kind: k, Parts: parts} }

func number(k int64) *core.Node { return &core.Node{Kind: core.Number, K: k} }

// fixed is an operation on an expression and a constant.
func fixed(op int, e *core.Node, k int64) *core.Node {
	return &core.Node{Kind: core.Fixed, Op: op, K: k, Parts: []*core.Node{e}}
}

func isNumber(e *core.Node) bool { return e.Kind == core.Number }

func isZero(e *core.Node) bool { return isNumber(e) && e.K == 0 }
