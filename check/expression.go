package check

import (
	"math"

	"plumbob/ast"
	"plumbob/types"
)

// typed is what an expression is found to be. One that breaks a rule has no type.
type typed struct {
	typ     string
	isPlace bool
	isZero  bool // a NUMBER 0, which fits pointers too
}

// place makes one of a type; of none, nothing.
func place(typ string) typed { return typed{typ: typ, isPlace: typ != ""} }

// expression tells what an expression is, whether or not that is a value.
func (c *checker) expression(n *ast.Node) typed {
	e := c.byKind(n, n.Parts())
	if e.typ == "" {
		c.refuse(n)
	}
	c.noteType(n, e.typ)
	return e
}

// value tells what an expression is where a value is wanted: an integer or a pointer.
func (c *checker) value(n *ast.Node) typed { return c.asValue(n, c.expression(n)) }

func (c *checker) asValue(n *ast.Node, e typed) typed {
	typ := e.typ
	if isArray(typ) {
		first, _ := types.Elem(typ)
		typ = first + "*"
	}
	if !c.table.Scalar(typ) {
		c.refuse(n)
		return typed{}
	}
	return typed{typ: typ, isZero: e.isZero}
}

func (c *checker) byKind(n *ast.Node, parts []*ast.Node) typed {
	switch n.Kind() {
	case ast.Number:
		return numeral(n.N())
	case ast.Name:
		return place(c.named(n))
	case ast.Call:
		return typed{typ: c.call(n.Name(), parts)}
	case ast.Unary:
		return c.unary(n.Op(), parts[0])
	case ast.Binary:
		return typed{typ: c.binary(n.Op(), c.value(parts[0]), c.value(parts[1]))}
	case ast.Cast:
		return typed{typ: c.cast(n.Type(), c.value(parts[0]).typ)}
	case ast.Index:
		return place(c.index(c.value(parts[0]).typ, c.value(parts[1]).typ))
	case ast.Member:
		return place(c.fields[field{c.record(n.Op(), parts[0]), n.Name()}].typ)
	case ast.In:
		return typed{typ: "long"}
	case ast.Sizeof:
		return typed{typ: c.sizeof(n)}
	}
	return typed{}
}

func numeral(n int64) typed {
	if n > math.MaxInt32 {
		return typed{typ: "long"}
	}
	return typed{typ: "int", isZero: n == 0}
}

// named tells the type of the variable that a name stands for here.
func (c *checker) named(n *ast.Node) string {
	if v, ok := c.here.inner[n.Name()]; ok && !v.isOver {
		return v.typ
	}
	c.noteGlobal(n)
	return c.outer[n.Name()].typ
}

func (c *checker) call(name string, arguments []*ast.Node) string {
	number, ok := c.numbers[name]
	if !ok || name == mainName {
		return ""
	}
	sig := c.functions[number].sig
	if len(arguments) != len(sig.Params) {
		return ""
	}
	for i, a := range arguments {
		if !fits(c.value(a), sig.Params[i]) {
			return ""
		}
	}
	return sig.Type
}

func (c *checker) unary(op string, part *ast.Node) typed {
	switch op {
	case "*":
		return place(c.target(c.value(part).typ))
	case "&":
		if e := c.expression(part); e.isPlace && !isArray(e.typ) {
			c.take(part)
			return typed{typ: e.typ + "*"}
		}
	case "!":
		if c.value(part).typ != "" {
			return typed{typ: "int"}
		}
	case "-", "~":
		return typed{typ: widened(c.value(part).typ)}
	}
	return typed{}
}

// take keeps in mind whose address is taken, if it is one of the function's own.
func (c *checker) take(n *ast.Node) {
	if n.Kind() == ast.Name && !c.notes.isGlobal(n) {
		c.here.taken[n.Name()] = struct{}{}
	}
}

// binary tells the type of an operation on two values; nothing, if it does not take them.
func (c *checker) binary(op string, a, b typed) string {
	joined, areIntegers := types.Join(a.typ, b.typ)
	switch op {
	case "+", "-":
		if !areIntegers {
			return c.step(op, a.typ, b.typ)
		}
	case "<<", ">>":
		if areIntegers {
			return widened(a.typ)
		}
	case "<", "<=", ">", ">=":
		if areIntegers {
			return "int"
		}
	case "==", "!=":
		if fits(a, b.typ) || fits(b, a.typ) {
			return "int"
		}
		return ""
	case "&&", "||":
		if a.typ != "" && b.typ != "" {
			return "int"
		}
	}
	return joined
}

// step tells the type of a pointer that an integer is put to, or taken from.
func (c *checker) step(op, a, b string) string {
	switch {
	case isInteger(b) && c.target(a) != "":
		return a
	case isInteger(a) && c.target(b) != "" && op == "+":
		return b
	}
	return ""
}

func (c *checker) cast(to, from string) string {
	if isInteger(to) == isInteger(from) && from != "" && c.table.Scalar(to) {
		return to
	}
	return ""
}

func (c *checker) index(pointer, index string) string {
	if !isInteger(index) {
		return ""
	}
	return c.target(pointer)
}

// record tells the type of what stands ahead of a field's name, or of what that is a pointer to. Whether it is a place need not be asked: a struct is one ever, since no call answers it.
func (c *checker) record(op string, part *ast.Node) string {
	if op == "." {
		return c.expression(part).typ
	}
	typ, _ := types.Elem(c.value(part).typ)
	return typ
}

func (c *checker) sizeof(n *ast.Node) string {
	if !c.hasSize(n.Type()) {
		return ""
	}
	c.sizes = append(c.sizes, n)
	return "int"
}
