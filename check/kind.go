package check

import (
	"strings"

	"plumbob/api"
	"plumbob/types"
)

func isArray(typ string) bool { return strings.HasSuffix(typ, "]") }

func isInteger(typ string) bool { return widened(typ) != "" }

// widened tells the type that an integer is reckoned in by itself; of what is none, nothing.
func widened(typ string) string {
	joined, _ := types.Join(typ, "char")
	return joined
}

// fits tells whether a value may be given to a place of a scalar type.
func fits(e typed, typ string) bool {
	if isInteger(e.typ) && isInteger(typ) {
		return true
	}
	_, isPointer := types.Elem(typ)
	return isPointer && (e.isZero || e.typ == typ)
}

// hasSize tells whether a type has a size, though it may be too great.
func (c *checker) hasSize(typ string) bool {
	_, _, e := c.table.Size(typ)
	return e != api.ETYPE
}

// target tells what a pointer is to, if that has a size.
func (c *checker) target(pointer string) string {
	typ, _ := types.Elem(pointer)
	if !c.hasSize(typ) {
		return ""
	}
	return typ
}
