package cmin

import (
	"strings"

	"plumbob/api"
	"plumbob/ast"
	"plumbob/core"
	"plumbob/types"
	"plumbob/val"
)

// value makes an expression one that comes to its value.
func (b *builder) value(n *ast.Node) *core.Node {
	if !isPlace(n) {
		return b.plain(n, n.Parts())
	}
	typ := b.checked.TypeOf(n)
	switch {
	case b.isApart(n):
		return the(core.Variable, b.homes[n.Name()].at)
	case isArray(typ):
		return b.place(n)
	}
	return access(core.Load, b.size(typ), b.place(n))
}

// fitted makes an expression one whose value another type is given.
func (b *builder) fitted(n *ast.Node, typ string) *core.Node {
	return converted(b.value(n), extension(typ, b.checked.TypeOf(n)))
}

func converted(e *core.Node, extension int) *core.Node {
	if extension == 0 {
		return e
	}
	return one(extension, e)
}

// extension tells the operation by which a value of an integer type is converted; 0, if it stays as it is.
func extension(to, from string) int {
	switch {
	case to == "char" && (from == "int" || from == "long"):
		return api.Ext8
	case to == "int" && from == "long":
		return api.Ext32
	}
	return 0
}

func isArray(typ string) bool { return strings.HasSuffix(typ, "]") }

func isInteger(typ string) bool {
	_, ok := types.Join(typ, "char")
	return ok
}

func isPlace(n *ast.Node) bool {
	switch n.Kind() {
	case ast.Name, ast.Index, ast.Member:
		return true
	case ast.Unary:
		return n.Op() == "*"
	}
	return false
}

// isApart tells whether an expression is the name of what is held apart.
func (b *builder) isApart(n *ast.Node) bool {
	return n.Kind() == ast.Name && !b.checked.IsGlobal(n) && b.homes[n.Name()].isApart
}

// place makes a place in the memory an expression that comes to its address.
func (b *builder) place(n *ast.Node) *core.Node {
	parts := n.Parts()
	switch n.Kind() {
	case ast.Name:
		if b.checked.IsGlobal(n) {
			return the(core.Global, b.globals[n.Name()])
		}
		return the(core.Local, b.homes[n.Name()].at)
	case ast.Index:
		return b.step(api.Add, b.value(parts[0]), b.value(parts[1]), b.checked.TypeOf(n))
	case ast.Member:
		return b.member(n, parts[0])
	}
	return kept(b.value(parts[0])) // of `*e`
}

// step makes a pointer one to another element: an integer, times the size of the type that it is to, is put to it or taken from it.
func (b *builder) step(op int, pointer, count *core.Node, typ string) *core.Node {
	return two(op, pointer, two(api.Mul, count, b.sizeOf(typ)))
}

func (b *builder) sizeOf(typ string) *core.Node { return constant(int64(b.size(typ))) }

func (b *builder) member(n, part *ast.Node) *core.Node {
	record := b.checked.TypeOf(part)
	var e *core.Node
	if n.Op() == "." {
		e = b.place(part)
	} else {
		e = b.value(part)
		record, _ = types.Elem(record)
	}
	offset := b.offsets[field{record, n.Name()}]
	if offset == 0 {
		// No 0 is put to it: that may be stuck, where the source is not.
		return kept(e)
	}
	return two(api.Add, e, constant(int64(offset)))
}

// plain makes an expression that is no place one that comes to its value.
func (b *builder) plain(n *ast.Node, parts []*ast.Node) *core.Node {
	switch n.Kind() {
	case ast.Number:
		return constant(n.N())
	case ast.Sizeof:
		return b.sizeOf(n.Type())
	case ast.In:
		return of(core.Input)
	case ast.Cast:
		return b.cast(parts[0], n.Type())
	case ast.Unary:
		return b.unary(n, parts[0])
	case ast.Binary:
		return b.binary(n, parts[0], parts[1])
	}
	return b.call(n, parts)
}

func (b *builder) cast(part *ast.Node, typ string) *core.Node {
	e := b.value(part)
	if op := extension(typ, b.checked.TypeOf(part)); op != 0 {
		return one(op, e)
	}
	return kept(e)
}

func (b *builder) call(n *ast.Node, parts []*ast.Node) *core.Node {
	f := b.numbers[n.Name()]
	e := the(core.Call, f)
	for i, a := range parts {
		e.Parts = append(e.Parts, b.fitted(a, b.sigs[f].Params[i]))
	}
	return e
}

func (b *builder) unary(n, part *ast.Node) *core.Node {
	switch n.Op() {
	case "&":
		return kept(b.place(part))
	case "!":
		// A comparison has no branch, of a pointer too.
		return two(api.Eq, b.value(part), constant(0))
	case "~":
		return one(api.Not, b.value(part))
	}
	return b.narrowed(n, one(api.Neg, b.value(part)))
}

// narrowed makes what an operation comes to a value of its type, since all are done in 64 bits.
func (b *builder) narrowed(n *ast.Node, e *core.Node) *core.Node {
	return converted(e, extension(b.checked.TypeOf(n), "long"))
}

func (b *builder) binary(n, left, right *ast.Node) *core.Node {
	if target, isPointer := types.Elem(b.checked.TypeOf(n)); isPointer {
		if isInteger(b.checked.TypeOf(left)) {
			return b.turned(left, right, target)
		}
		return b.step(operation(n.Op()), b.value(left), b.value(right), target)
	}
	first, second := b.value(left), b.value(right)
	switch n.Op() {
	case "&&":
		return of(core.Both, first, second)
	case "||":
		return of(core.Either, first, second)
	}
	op := operation(n.Op())
	e := two(op, first, second)
	if _, isComparison := val.Flip(op); isComparison {
		return e
	}
	return b.narrowed(n, e)
}

// turned makes an integer and a pointer a sum. The integer is evaluated ahead of the pointer, but multiplied behind it: that may be stuck, and what the pointer does must have been done. So it is held in a variable, which another one within the pointer must not use.
func (b *builder) turned(count, pointer *ast.Node, typ string) *core.Node {
	first := b.value(count)
	held := b.vars + b.held
	b.held++
	b.spare = max(b.spare, b.held)
	sum := b.step(api.Add, b.value(pointer), the(core.Variable, held), typ)
	b.held--
	return the(core.Let, held, first, sum)
}
