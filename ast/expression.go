package ast

import (
	"slices"

	"plumbob/api"
	"plumbob/lex"
)

// levels has the operators that stand between two expressions, the loosest first.
var levels = [...][]string{
	{"||"}, {"&&"}, {"|"}, {"^"}, {"&"}, {"==", "!="}, {"<", "<=", ">", ">="}, {"<<", ">>"}, {"+", "-"}, {"*", "/", "%"},
}

// prefixes has the operators that stand ahead of one.
var prefixes = [...]string{"-", "~", "!", "*", "&"}

func (p *parser) expression() *Node { return p.binary(0) }

// binary reads an expression whose operators outside of parentheses are of a level or tighter ones.
func (p *parser) binary(level int) *Node {
	if level == len(levels) {
		return p.unary()
	}
	left := p.binary(level + 1)
operators:
	for {
		at := p.word().At
		for _, op := range levels[level] {
			if p.take(op) {
				left = p.grow(Node{kind: Binary, at: at, op: op, parts: []*Node{left, p.binary(level + 1)}})
				continue operators
			}
		}
		return left
	}
}

// unary reads what stands ahead of a postfix expression, and puts it on from the inside out.
func (p *parser) unary() *Node {
	p.enter()
	defer p.leave()
	var ahead []Node
parts:
	for {
		at := p.word().At
		for _, op := range prefixes {
			if p.take(op) {
				ahead = append(ahead, Node{kind: Unary, at: at, op: op})
				continue parts
			}
		}
		if !p.is("(") || !p.beginsType(p.at+1) {
			break
		}
		p.at++
		ahead = append(ahead, Node{kind: Cast, at: at, typ: p.typ()})
		p.need(")")
	}
	e := p.postfix()
	for _, outer := range slices.Backward(ahead) {
		outer.parts = []*Node{e}
		e = p.grow(outer)
	}
	return e
}

func (p *parser) postfix() *Node {
	e := p.primary()
	for {
		n := Node{at: p.word().At, op: p.word().Text, parts: []*Node{e}}
		switch {
		case p.take("["):
			n.kind, n.op = Index, ""
			n.parts = append(n.parts, p.expression())
			p.need("]")
		case p.take("."), p.take("->"):
			n.kind, n.name = Member, p.needKind(lex.Name).Text
		default:
			return e
		}
		e = p.grow(n)
	}
}

func (p *parser) primary() *Node {
	w := p.word()
	switch {
	case w.Kind == lex.Number:
		p.at++
		return p.grow(Node{kind: Number, at: w.At, n: w.N})
	case w.Kind == lex.Name:
		p.at++
		return p.nameOrCall(w)
	case p.take("("):
		e := p.expression()
		p.need(")")
		p.raise(e)
		return e
	case p.take("in"):
		p.need("(")
		p.need(")")
		return p.grow(Node{kind: In, at: w.At})
	case p.take("sizeof"):
		return p.sizeof(w.At)
	}
	p.refuse()
	return &Node{}
}

func (p *parser) nameOrCall(w lex.Word) *Node {
	n := Node{kind: Name, at: w.At, name: w.Text}
	if p.take("(") {
		n.kind = Call
		n.parts = p.list(p.expression)
	}
	return p.grow(n)
}

func (p *parser) sizeof(at api.Pos) *Node {
	p.need("(")
	n := Node{kind: Sizeof, at: at, typ: p.brackets(p.typ())}
	p.need(")")
	return p.grow(n)
}
