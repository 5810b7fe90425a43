package sel

import (
	"math"
	"math/bits"

	"plumbob/api"
	"plumbob/core"
	"plumbob/val"
)

// one chooses an operation on one value.
func one(op int, e *core.Node) *core.Node {
	if isNumber(e) {
		if v, ok := val.Un(op, val.Of(e.K)); ok {
			return number(v.N)
		}
	}
	return &core.Node{Kind: core.Unary, Op: op, Parts: []*core.Node{e}}
}

// two chooses an operation on two values.
func two(op int, x, y *core.Node) *core.Node {
	if isNumber(x) && isNumber(y) {
		if v, ok := val.Bin(op, val.Of(x.K), val.Of(y.K)); ok {
			return number(v.N)
		}
	}
	switch op {
	case api.Add:
		return sum(x, y)
	case api.Sub:
		return difference(x, y)
	case api.Mul:
		return product(x, y)
	case api.Eq, api.Ne:
		return equality(op, x, y)
	}
	return operation(op, x, y)
}

// operation takes the machine's one with a constant, where there is one. What stands the wrong way for that is turned round.
func operation(op int, x, y *core.Node) *core.Node {
	if isNumber(y) && has(op, y.K) {
		return fixed(op, x, y.K)
	}
	if turned, ok := val.Swap(op); ok && isNumber(x) && has(turned, x.K) {
		return fixed(turned, y, x.K)
	}
	return &core.Node{Kind: core.Binary, Op: op, Parts: []*core.Node{x, y}}
}

// has tells whether the machine has an operation with a constant. A division has both operands in registers.
func has(op int, k int64) bool {
	switch op {
	case api.Div, api.Mod:
		return false
	case api.Shl, api.Shr:
		return k >= 0 && k <= 63
	}
	return k >= math.MinInt32 && k <= math.MaxInt32
}

// isSum tells whether an expression is one that a constant is put to.
func isSum(e *core.Node) bool { return e.Kind == core.Fixed && e.Op == api.Add }

// sum puts constants to what all else comes to, so that they come together, and to the access, if it is an address.
func sum(x, y *core.Node) *core.Node {
	switch {
	case isNumber(y):
		return moved(x, y.K)
	case isNumber(x):
		return moved(y, x.K)
	case isSum(x):
		return moved(sum(x.Parts[0], y), x.K)
	case isSum(y):
		return moved(sum(x, y.Parts[0]), y.K)
	}
	return operation(api.Add, x, y)
}

func difference(x, y *core.Node) *core.Node {
	if isNumber(y) {
		return moved(x, -y.K)
	}
	return operation(api.Sub, x, y)
}

// moved puts a constant to an expression. Where it is 0, nothing is left to do: what is Stuck then is so in the source, too.
func moved(e *core.Node, k int64) *core.Node {
	if isSum(e) {
		e, k = e.Parts[0], e.K+k
	}
	if k == 0 {
		return e
	}
	return operation(api.Add, e, number(k))
}

// product makes a multiplication by a power of two a shift; by 1 it is none, as above.
func product(x, y *core.Node) *core.Node {
	if isNumber(x) {
		x, y = y, x
	}
	if !isNumber(y) || bits.OnesCount64(uint64(y.K)) != 1 {
		return operation(api.Mul, x, y)
	}
	if y.K == 1 {
		return x
	}
	return fixed(api.Shl, x, int64(bits.TrailingZeros64(uint64(y.K))))
}
