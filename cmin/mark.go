package cmin

import "plumbob/api"

// operation tells the one that stands for a mark between two expressions.
func operation(mark string) int {
	switch mark {
	case "+":
		return api.Add
	case "-":
		return api.Sub
	case "*":
		return api.Mul
	case "/":
		return api.Div
	case "%":
		return api.Mod
	case "&":
		return api.And
	case "|":
		return api.Or
	case "^":
		return api.Xor
	case "<<":
		return api.Shl
	case ">>":
		return api.Shr
	}
	return comparison(mark)
}

func comparison(mark string) int {
	switch mark {
	case "==":
		return api.Eq
	case "!=":
		return api.Ne
	case "<":
		return api.Lt
	case "<=":
		return api.Le
	case ">":
		return api.Gt
	}
	return api.Ge
}
