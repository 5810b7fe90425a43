package clight

import (
	"strings"

	"plumbob/api"
	"plumbob/ast"
	"plumbob/types"
	"plumbob/val"
)

// value makes an expression ready where a value is wanted.
func (b *builder) value(n *ast.Node) expression {
	if !isPlace(n) || b.isApart(n) {
		return counted{b.plain(n, n.Parts())}
	}
	typ := b.checked.TypeOf(n)
	if isArray(typ) {
		return b.place(n)
	}
	return load{b.place(n), b.size(typ)}
}

// fitted makes an expression ready whose value another type is given.
func (b *builder) fitted(n *ast.Node, typ string) expression {
	return converting(b.value(n), extension(typ, b.checked.TypeOf(n)))
}

func converting(e expression, extension int) expression {
	if extension == 0 {
		return e
	}
	return unary{extension, e}
}

// extension tells the operation by which a value of an integer type is converted; 0, if it stays as it is.
func extension(to, from string) int {
	switch {
	case to == "char" && (from == "int" || from == "long"):
		return api.Ext8
	case to == "int" && from == "long":
		return api.Ext32
	}
	return 0
}

func isArray(typ string) bool { return strings.HasSuffix(typ, "]") }

func isPlace(n *ast.Node) bool {
	switch n.Kind() {
	case ast.Name, ast.Index, ast.Member:
		return true
	case ast.Unary:
		return n.Op() == "*"
	}
	return false
}

// isApart tells whether an expression is the name of what is held apart.
func (b *builder) isApart(n *ast.Node) bool {
	return n.Kind() == ast.Name && !b.checked.IsGlobal(n) && b.vars[b.slots[n.Name()]].isApart
}

// place makes a place in the memory ready: what it comes to is its address.
func (b *builder) place(n *ast.Node) expression {
	parts := n.Parts()
	switch n.Kind() {
	case ast.Name:
		if b.checked.IsGlobal(n) {
			return counted{global{b.globals[n.Name()]}}
		}
		return counted{slot{b.slots[n.Name()]}}
	case ast.Index:
		return counted{stride{op: api.Add, first: b.value(parts[0]), second: b.value(parts[1]), size: b.sizeAsValue(b.checked.TypeOf(n))}}
	case ast.Member:
		return counted{b.member(n, parts[0])}
	}
	return counted{b.value(parts[0])} // of `*e`
}

func (b *builder) sizeAsValue(typ string) api.Val { return val.Of(int64(b.size(typ))) }

func (b *builder) member(n, part *ast.Node) expression {
	record := b.checked.TypeOf(part)
	var e expression
	if n.Op() == "." {
		e = b.place(part)
	} else {
		e = b.value(part)
		record, _ = types.Elem(record)
	}
	offset := b.offsets[field{record, n.Name()}]
	if offset == 0 {
		return e
	}
	return shifted{e, val.Of(int64(offset))}
}

// plain makes an expression ready that is no place in the memory, without the fuel that it uses.
func (b *builder) plain(n *ast.Node, parts []*ast.Node) expression {
	switch n.Kind() {
	case ast.Number:
		return constant{val.Of(n.N())}
	case ast.Sizeof:
		return constant{b.sizeAsValue(n.Type())}
	case ast.Name:
		return slot{b.slots[n.Name()]}
	case ast.In:
		return input{}
	case ast.Cast:
		return b.fitted(parts[0], n.Type())
	case ast.Unary:
		return b.unary(n, parts[0])
	case ast.Binary:
		return b.binary(n, parts[0], parts[1])
	}
	return b.call(n, parts)
}

func (b *builder) call(n *ast.Node, parts []*ast.Node) expression {
	c := call{number: b.numbers[n.Name()]}
	for i, a := range parts {
		c.arguments = append(c.arguments, b.fitted(a, b.sigs[c.number].Params[i]))
	}
	return c
}

func (b *builder) unary(n, part *ast.Node) expression {
	switch n.Op() {
	case "&":
		return b.place(part)
	case "!":
		return negation{b.value(part)}
	case "~":
		return unary{api.Not, b.value(part)}
	}
	return b.narrowed(n, unary{api.Neg, b.value(part)})
}

// narrowed makes what an operation comes to a value of its type, since all are done in 64 bits.
func (b *builder) narrowed(n *ast.Node, e expression) expression {
	return converting(e, extension(b.checked.TypeOf(n), "long"))
}

func (b *builder) binary(n, left, right *ast.Node) expression {
	first, second := b.value(left), b.value(right)
	typ := b.checked.TypeOf(n)
	if target, isPointer := types.Elem(typ); isPointer {
		isTurned := isInteger(b.checked.TypeOf(left))
		return stride{operation(n.Op()), first, second, isTurned, b.sizeAsValue(target)}
	}
	switch n.Op() {
	case "&&":
		return logic{first, second, false}
	case "||":
		return logic{first, second, true}
	}
	return b.narrowed(n, binary{operation(n.Op()), first, second, typ == "int"})
}

func isInteger(typ string) bool {
	_, ok := types.Join(typ, "char")
	return ok
}

// operation tells the one that stands for a mark between two expressions.
func operation(mark string) int {
	switch mark {
	case "+":
		return api.Add
	case "-":
		return api.Sub
	case "*":
		return api.Mul
	case "/":
		return api.Div
	case "%":
		return api.Mod
	case "&":
		return api.And
	case "|":
		return api.Or
	case "^":
		return api.Xor
	case "<<":
		return api.Shl
	case ">>":
		return api.Shr
	}
	return comparison(mark)
}

func comparison(mark string) int {
	switch mark {
	case "==":
		return api.Eq
	case "!=":
		return api.Ne
	case "<":
		return api.Lt
	case "<=":
		return api.Le
	case ">":
		return api.Gt
	}
	return api.Ge
}
