package ast

import (
	"strings"

	"plumbob/api"
	"plumbob/lex"
)

// parser goes through a text's words. Behind a fault it finds no more words, so that all that is under way ends soon; it is the first fault that is told.
type parser struct {
	words []lex.Word
	end   api.Pos // of the byte behind the text's last one
	at    int
	depth int
	nodes int
	funcs int
	fault api.Pos
	e     api.Errno
}

// endOf tells the place of the byte behind a text's last one.
func endOf(text string) api.Pos {
	return api.Pos{Line: strings.Count(text, "\n") + 1, Col: len(text) - strings.LastIndexByte(text, '\n')}
}

func (p *parser) fail(e api.Errno, at api.Pos) {
	if p.e == api.OK {
		p.e, p.fault = e, at
	}
}

// refuse says that no program goes on with the word at hand.
func (p *parser) refuse() { p.fail(api.ESYNTAX, p.word().At) }

// word tells the word at hand; where there is none, one without a kind and a text.
func (p *parser) word() lex.Word {
	if p.e != api.OK || p.at >= len(p.words) {
		return lex.Word{At: p.end}
	}
	return p.words[p.at]
}

func (p *parser) is(text string) bool { return p.word().Text == text }

func (p *parser) take(text string) bool {
	if !p.is(text) {
		return false
	}
	p.at++
	return true
}

func (p *parser) need(text string) {
	if !p.take(text) {
		p.refuse()
	}
}

// goesOn tells whether parts stand ahead of a closing word.
func (p *parser) goesOn(closing string) bool { return p.e == api.OK && !p.is(closing) }

func (p *parser) needKind(kind int) lex.Word {
	w := p.word()
	if w.Kind != kind {
		p.refuse()
		return lex.Word{}
	}
	p.at++
	return w
}

// list reads parts with commas between them, and the parenthesis behind; there may be none.
func (p *parser) list(one func() *Node) []*Node {
	if p.take(")") {
		return nil
	}
	parts := []*Node{one()}
	for p.take(",") {
		parts = append(parts, one())
	}
	p.need(")")
	return parts
}

// enter begins a part within others: one that is too deep ends all, ahead of the calls that it would need.
func (p *parser) enter() {
	p.depth++
	if p.depth > api.MaxDepth {
		p.fail(api.ELIMIT, p.word().At)
	}
}

func (p *parser) leave() { p.depth-- }

// grow makes a statement or an expression, and holds it against the limits.
func (p *parser) grow(n Node) *Node {
	p.nodes++
	n.serial = p.nodes
	if p.nodes > api.MaxNodes {
		p.fail(api.ELIMIT, n.at)
	}
	for _, part := range n.parts {
		n.height = max(n.height, part.height)
	}
	p.raise(&n)
	return &n
}

// raise makes a node one part higher: by itself, or by parentheses round it.
func (p *parser) raise(n *Node) {
	n.height++
	if n.height > api.MaxDepth {
		p.fail(api.ELIMIT, n.at)
	}
}
