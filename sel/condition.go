package sel

import (
	"plumbob/api"
	"plumbob/core"
	"plumbob/val"
)

// condition makes an expression what a branch may ask.
func condition(e *core.Node) *core.Node {
	if isCondition(e) {
		return e
	}
	return fixed(api.Ne, e, 0)
}

// isCondition tells whether an expression compares, or is made of such ones by And and Or.
func isCondition(e *core.Node) bool {
	switch e.Kind {
	case core.And, core.Or:
		return true
	case core.Binary, core.Fixed:
		_, compares := val.Flip(e.Op)
		return compares
	}
	return false
}

// equality makes a condition that is compared with 0 the condition itself, or its opposite.
func equality(op int, x, y *core.Node) *core.Node {
	if isZero(x) {
		x, y = y, x
	}
	if !isZero(y) || !isCondition(x) {
		return operation(op, x, y)
	}
	if op == api.Eq {
		negate(x)
	}
	return x
}

// negate makes a condition its opposite.
func negate(e *core.Node) {
	switch e.Kind {
	case core.And:
		e.Kind = core.Or
	case core.Or:
		e.Kind = core.And
	default:
		e.Op, _ = val.Flip(e.Op)
		return
	}
	for _, part := range e.Parts {
		negate(part)
	}
}
