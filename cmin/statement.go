package cmin

import "plumbob/ast"

func (b *builder) statement(n *ast.Node) *node {
	parts := n.Parts()
	switch n.Kind() {
	case ast.Block:
		return of(block, b.statements(parts)...)
	case ast.Local:
		return b.local(n, parts)
	case ast.If:
		return of(choice, append([]*node{b.value(parts[0])}, b.statements(parts[1:])...)...)
	case ast.While:
		return of(loop, b.value(parts[0]), b.statement(parts[1]))
	case ast.Break:
		return of(breaking)
	case ast.Continue:
		return of(continuing)
	case ast.Return:
		return b.leaving(parts)
	case ast.Out:
		return of(output, b.value(parts[0]))
	case ast.Assign:
		return b.assignment(parts[0], parts[1])
	case ast.Value:
		return of(alone, b.value(parts[0]))
	}
	return of(block) // of `;`
}

func (b *builder) statements(parts []*ast.Node) []*node {
	var l []*node
	for _, n := range parts {
		l = append(l, b.statement(n))
	}
	return l
}

func (b *builder) local(n *ast.Node, first []*ast.Node) *node {
	if len(first) == 0 {
		return of(block)
	}
	e := b.fitted(first[0], n.Type())
	h := b.homes[n.Name()]
	if h.isApart {
		return setting(h.at, e)
	}
	return b.laying(the(local, h.at), e, n.Type())
}

func (b *builder) leaving(parts []*ast.Node) *node {
	if len(parts) == 0 {
		return of(answer)
	}
	return of(answer, b.fitted(parts[0], b.answer))
}

func (b *builder) assignment(to, from *ast.Node) *node {
	typ := b.checked.TypeOf(to)
	e := b.fitted(from, typ)
	if b.isApart(to) {
		return setting(b.homes[to.Name()].at, e)
	}
	return b.laying(b.place(to), e, typ)
}
