// Package val: machine integers and pointers: see DOC.md, chapter 1.
package val

import (
	"strconv"

	"plumbob/api"
)

// Un reckons with one value.
func Un(op int, a api.Val) (api.Val, bool) {
	if kind(a) != api.Int {
		return api.Val{}, false
	}
	switch op {
	case api.Neg:
		return Of(-a.N), true
	case api.Not:
		return Of(^a.N), true
	case api.Ext8:
		return Of(int64(int8(a.N))), true
	case api.Ext32:
		return Of(int64(int32(a.N))), true
	}
	return api.Val{}, false
}

// Bin reckons with two.
func Bin(op int, a, b api.Val) (api.Val, bool) {
	left, right := kind(a), kind(b)
	switch {
	case left == api.Int && right == api.Int:
		return ints(op, a.N, b.N)
	case left == api.Ptr && right == api.Ptr:
		return pointers(op, a, b)
	case left == api.Ptr && right == api.Int:
		return pointerAndInt(op, a, b.N)
	case left == api.Int && right == api.Ptr && op != api.Sub:
		// All that a pointer and an Int have a meaning for, but Sub, means the same the other way round.
		return pointerAndInt(op, b, a.N)
	}
	return api.Val{}, false
}

// Of makes a number a value.
func Of(n int64) api.Val { return api.Val{Kind: api.Int, N: n} }

// At makes a pointer.
func At(block int, n int64) api.Val {
	if block < 1 {
		return api.Val{}
	}
	return api.Val{Kind: api.Ptr, N: n, Block: block}
}

// True tells whether a value is not 0, and whether that can be said.
func True(a api.Val) (bool, bool) {
	switch kind(a) {
	case api.Int:
		return a.N != 0, true
	case api.Ptr:
		return true, true
	}
	return false, false
}

// Good tells whether a value may be.
func Good(a api.Val) bool {
	switch a.Kind {
	case api.Undef:
		return a.N == 0 && a.Block == 0
	case api.Int:
		return a.Block == 0
	case api.Ptr:
		return a.Block >= 1
	}
	return false
}

// Text tells a value.
func Text(a api.Val) string {
	switch kind(a) {
	case api.Int:
		return strconv.FormatInt(a.N, 10)
	case api.Ptr:
		return "&" + strconv.Itoa(a.Block) + "+" + strconv.FormatInt(a.N, 10)
	}
	return "undef"
}

// Flip tells the opposite of a comparison.
func Flip(op int) (int, bool) {
	switch op {
	case api.Eq:
		return api.Ne, true
	case api.Ne:
		return api.Eq, true
	case api.Lt:
		return api.Ge, true
	case api.Le:
		return api.Gt, true
	case api.Gt:
		return api.Le, true
	case api.Ge:
		return api.Lt, true
	}
	return 0, false
}

// Swap tells the operation with its operands swapped.
func Swap(op int) (int, bool) {
	switch op {
	case api.Add, api.Mul, api.And, api.Or, api.Xor, api.Eq, api.Ne:
		return op, true
	case api.Lt:
		return api.Gt, true
	case api.Le:
		return api.Ge, true
	case api.Gt:
		return api.Lt, true
	case api.Ge:
		return api.Le, true
	}
	return 0, false
}

// kind is the kind that a value counts as: one that may not be counts as Undef.
func kind(a api.Val) int {
	if !Good(a) {
		return api.Undef
	}
	return a.Kind
}

// bit is the Int of a comparison.
func bit(holds bool) api.Val {
	if holds {
		return Of(1)
	}
	return Of(0)
}

func ints(op int, a, b int64) (api.Val, bool) {
	switch op {
	case api.Add:
		return Of(a + b), true
	case api.Sub:
		return Of(a - b), true
	case api.Mul:
		return Of(a * b), true
	case api.Div, api.Mod:
		return divide(op, a, b)
	case api.And:
		return Of(a & b), true
	case api.Or:
		return Of(a | b), true
	case api.Xor:
		return Of(a ^ b), true
	case api.Shl, api.Shr:
		return shift(op, a, b)
	}
	return compare(op, a, b)
}

// divide refuses what the machine's division faults on; -2^63 by -1 has no quotient in 64 bits.
func divide(op int, a, b int64) (api.Val, bool) {
	if b == 0 || a == -1<<63 && b == -1 {
		return api.Val{}, false
	}
	if op == api.Div {
		return Of(a / b), true
	}
	return Of(a % b), true
}

func shift(op int, a, b int64) (api.Val, bool) {
	if b < 0 || b > 63 {
		return api.Val{}, false
	}
	if op == api.Shl {
		return Of(a << uint64(b)), true
	}
	return Of(a >> uint64(b)), true
}

func compare(op int, a, b int64) (api.Val, bool) {
	switch op {
	case api.Eq:
		return bit(a == b), true
	case api.Ne:
		return bit(a != b), true
	case api.Lt:
		return bit(a < b), true
	case api.Le:
		return bit(a <= b), true
	case api.Gt:
		return bit(a > b), true
	case api.Ge:
		return bit(a >= b), true
	}
	return api.Val{}, false
}

func pointers(op int, p, q api.Val) (api.Val, bool) {
	switch op {
	case api.Eq:
		return bit(p == q), true
	case api.Ne:
		return bit(p != q), true
	}
	return api.Val{}, false
}

// pointerAndInt compares with 0 alone: where a block lies is not known, so of other numbers nothing can be said.
func pointerAndInt(op int, p api.Val, n int64) (api.Val, bool) {
	switch {
	case op == api.Add:
		return At(p.Block, p.N+n), true
	case op == api.Sub:
		return At(p.Block, p.N-n), true
	case op == api.Eq && n == 0:
		return Of(0), true
	case op == api.Ne && n == 0:
		return Of(1), true
	}
	return api.Val{}, false
}
