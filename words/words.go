// Package words: what texts that tell programs share: the words for api's operations.
package words

import (
	"strconv"

	"plumbob/api"
)

var operations = [...]string{
	api.Neg: "neg", api.Not: "not", api.Ext8: "ext8", api.Ext32: "ext32",
	api.Add: "add", api.Sub: "sub", api.Mul: "mul", api.Div: "div", api.Mod: "mod", api.And: "and", api.Or: "or", api.Xor: "xor", api.Shl: "shl", api.Shr: "shr",
	api.Eq: "eq", api.Ne: "ne", api.Lt: "lt", api.Le: "le", api.Gt: "gt", api.Ge: "ge",
}

// Operation tells an operation: of unlike ones unlike words, and the number, if it is none.
func Operation(op int) string {
	if op < 0 || op >= len(operations) || operations[op] == "" {
		return strconv.Itoa(op)
	}
	return operations[op]
}
