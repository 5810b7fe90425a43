package cmin

import (
	"plumbob/ast"
	"plumbob/core"
)

func (b *builder) statement(n *ast.Node) *core.Node {
	parts := n.Parts()
	switch n.Kind() {
	case ast.Block:
		return of(core.Block, b.statements(parts)...)
	case ast.Local:
		return b.local(n, parts)
	case ast.If:
		return of(core.Choice, append([]*core.Node{b.value(parts[0])}, b.statements(parts[1:])...)...)
	case ast.While:
		return of(core.Loop, b.value(parts[0]), b.statement(parts[1]))
	case ast.Break:
		return of(core.Breaking)
	case ast.Continue:
		return of(core.Continuing)
	case ast.Return:
		return b.leaving(parts)
	case ast.Out:
		return of(core.Output, b.value(parts[0]))
	case ast.Assign:
		return b.assignment(parts[0], parts[1])
	case ast.Value:
		return of(core.Alone, b.value(parts[0]))
	}
	return of(core.Block) // of `;`
}

func (b *builder) statements(parts []*ast.Node) []*core.Node {
	var l []*core.Node
	for _, n := range parts {
		l = append(l, b.statement(n))
	}
	return l
}

func (b *builder) local(n *ast.Node, first []*ast.Node) *core.Node {
	if len(first) == 0 {
		return of(core.Block)
	}
	e := b.fitted(first[0], n.Type())
	h := b.homes[n.Name()]
	if h.isApart {
		return the(core.Set, h.at, e)
	}
	return b.laying(the(core.Local, h.at), e, n.Type())
}

func (b *builder) leaving(parts []*ast.Node) *core.Node {
	if len(parts) == 0 {
		return of(core.Answer)
	}
	return of(core.Answer, b.fitted(parts[0], b.answer))
}

func (b *builder) assignment(to, from *ast.Node) *core.Node {
	typ := b.checked.TypeOf(to)
	e := b.fitted(from, typ)
	if b.isApart(to) {
		return the(core.Set, b.homes[to.Name()].at, e)
	}
	return b.laying(b.place(to), e, typ)
}
