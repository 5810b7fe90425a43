package ast

import "plumbob/api"

func (p *parser) block() *Node {
	n := Node{kind: Block, at: p.word().At}
	p.need("{")
	for p.goesOn("}") {
		if p.beginsType(p.at) {
			n.parts = append(n.parts, p.local())
		} else {
			n.parts = append(n.parts, p.statement())
		}
	}
	p.need("}")
	return p.grow(n)
}

func (p *parser) local() *Node {
	n := p.named(p.typ())
	n.kind = Local
	if p.take("=") {
		n.parts = []*Node{p.expression()}
	} else {
		n.typ = p.brackets(n.typ)
	}
	return p.finish(*n)
}

func (p *parser) statement() *Node {
	p.enter()
	defer p.leave()
	at := p.word().At
	switch {
	case p.is("{"):
		return p.block()
	case p.is(";"):
		return p.finish(Node{kind: Empty, at: at})
	case p.take("if"):
		return p.choice(at)
	case p.take("while"):
		return p.grow(Node{kind: While, at: at, parts: []*Node{p.enclosed(), p.statement()}})
	case p.take("break"):
		return p.finish(Node{kind: Break, at: at})
	case p.take("continue"):
		return p.finish(Node{kind: Continue, at: at})
	case p.take("return"):
		return p.answer(at)
	case p.take("out"):
		return p.finish(Node{kind: Out, at: at, parts: []*Node{p.enclosed()}})
	}
	return p.assignment(at)
}

// finish reads the `;` that ends a statement.
func (p *parser) finish(n Node) *Node {
	p.need(";")
	return p.grow(n)
}

// enclosed reads an expression in the parentheses that belong to a statement.
func (p *parser) enclosed() *Node {
	p.need("(")
	e := p.expression()
	p.need(")")
	return e
}

func (p *parser) choice(at api.Pos) *Node {
	n := Node{kind: If, at: at, parts: []*Node{p.enclosed(), p.statement()}}
	// The statement within has had the first choice of an else: so it belongs to the nearest if.
	if p.take("else") {
		n.parts = append(n.parts, p.statement())
	}
	return p.grow(n)
}

func (p *parser) answer(at api.Pos) *Node {
	n := Node{kind: Return, at: at}
	if !p.is(";") {
		n.parts = []*Node{p.expression()}
	}
	return p.finish(n)
}

func (p *parser) assignment(at api.Pos) *Node {
	n := Node{kind: Value, at: at, parts: []*Node{p.expression()}}
	if p.take("=") {
		n.kind = Assign
		n.parts = append(n.parts, p.expression())
	}
	return p.finish(n)
}
