package ast

import (
	"plumbob/api"
	"plumbob/lex"
)

var typeWords = [...]string{"char", "int", "long", "void", "struct"}

func (p *parser) program() []*Node {
	var parts []*Node
	for p.e == api.OK && p.at < len(p.words) {
		parts = append(parts, p.item())
	}
	return parts
}

// item reads a struct, a global or a function: all of them begin as types do.
func (p *parser) item() *Node {
	at := p.word().At
	t := p.typ()
	if name, ok := t.structName(); ok && p.take("{") {
		return p.fields(&Node{kind: Struct, at: at, name: name})
	}
	n := p.named(t)
	if p.take("(") {
		n.kind = Function
		return p.function(n)
	}
	n.kind = Global
	n.typ = p.brackets(t)
	p.need(";")
	return n
}

func (p *parser) fields(n *Node) *Node {
	for p.goesOn("}") {
		f := p.named(p.typ())
		f.kind = Field
		f.typ = p.brackets(f.typ)
		p.need(";")
		n.parts = append(n.parts, f)
	}
	p.need("}")
	p.need(";")
	return n
}

func (p *parser) function(n *Node) *Node {
	p.funcs++
	if p.funcs > api.MaxFuncs {
		p.fail(api.ELIMIT, n.at)
	}
	n.parts = p.list(p.param)
	n.parts = append(n.parts, p.block())
	return n
}

func (p *parser) param() *Node {
	public := p.take("public")
	n := p.named(p.typ())
	n.kind, n.public = Param, public
	return n
}

// named reads the name that is given a type.
func (p *parser) named(t shape) *Node {
	w := p.needKind(lex.Name)
	return &Node{at: w.At, name: w.Text, typ: t}
}

func (p *parser) typ() shape {
	if !p.beginsType(p.at) {
		p.refuse()
		return shape{}
	}
	t := shape{base: p.word().Text}
	p.at++
	if t.base == "struct" {
		t.base += " " + p.needKind(lex.Name).Text
	}
	for p.take("*") {
		t.stars++
	}
	return t
}

// beginsType asks of the word of a number, since a parenthesis hangs on the word behind it.
func (p *parser) beginsType(number int) bool {
	if p.e != api.OK || number >= len(p.words) {
		return false
	}
	for _, w := range typeWords {
		if p.words[number].Text == w {
			return true
		}
	}
	return false
}

// brackets reads the number of a list's elements, if it is one.
func (p *parser) brackets(t shape) shape {
	if p.take("[") {
		t.isList = true
		t.count = p.needKind(lex.Number).N
		p.need("]")
	}
	return t
}
