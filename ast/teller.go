package ast

import (
	"strconv"
	"strings"
)

// teller gathers the words that tell a tree.
type teller struct{ words []string }

func (t *teller) say(words ...string) { t.words = append(t.words, words...) }

func (t *teller) text() string { return strings.Join(t.words, " ") }

func (t *teller) each(l []*Node) {
	for _, n := range l {
		t.node(n)
	}
}

func (t *teller) node(n *Node) {
	switch {
	case n.kind < Block:
		t.item(n)
	case n.kind < Number:
		t.statement(n)
	default:
		t.expression(n)
	}
}

func (t *teller) item(n *Node) {
	switch n.kind {
	case Struct:
		t.say("struct", n.name, "{")
		t.each(n.parts)
		t.say("}", ";")
	case Field, Global:
		t.variable(n)
		t.say(";")
	case Function:
		last := len(n.parts) - 1
		t.variable(n)
		t.list(n.parts[:last])
		t.node(n.parts[last])
	case Param:
		if n.public {
			t.say("public")
		}
		t.variable(n)
	}
}

// variable tells a name behind its type, which has its brackets behind the name.
func (t *teller) variable(n *Node) {
	t.base(n.typ)
	t.say(n.name)
	t.brackets(n.typ)
}

func (t *teller) base(s shape) {
	t.say(s.base)
	for range s.stars {
		t.say("*")
	}
}

func (t *teller) brackets(s shape) {
	if s.isList {
		t.say("[", strconv.FormatInt(s.count, 10), "]")
	}
}

// list tells parts with commas between them, in parentheses.
func (t *teller) list(l []*Node) {
	t.say("(")
	for i, n := range l {
		if i > 0 {
			t.say(",")
		}
		t.node(n)
	}
	t.say(")")
}

func (t *teller) statement(n *Node) {
	switch n.kind {
	case Block:
		t.say("{")
		t.each(n.parts)
		t.say("}")
	case If:
		t.say("if")
		t.list(n.parts[:1])
		t.body(n.parts[1])
		if len(n.parts) > 2 {
			t.say("else")
			t.body(n.parts[2])
		}
	case While:
		t.say("while")
		t.list(n.parts[:1])
		t.body(n.parts[1])
	default:
		t.plain(n)
		t.say(";")
	}
}

// body puts braces round a statement that is no block.
func (t *teller) body(n *Node) {
	if n.kind == Block {
		t.node(n)
		return
	}
	t.say("{")
	t.node(n)
	t.say("}")
}

// plain tells a statement that ends with a `;`, up to it.
func (t *teller) plain(n *Node) {
	switch n.kind {
	case Local:
		t.variable(n)
		if len(n.parts) > 0 {
			t.say("=")
		}
		t.each(n.parts)
	case Break:
		t.say("break")
	case Continue:
		t.say("continue")
	case Return:
		t.say("return")
		t.each(n.parts)
	case Out:
		t.say("out")
		t.list(n.parts)
	case Assign:
		t.node(n.parts[0])
		t.say("=")
		t.node(n.parts[1])
	case Value:
		t.each(n.parts)
	}
}

func (t *teller) expression(n *Node) {
	switch n.kind {
	case Number:
		t.say(strconv.FormatInt(n.n, 10))
	case Name:
		t.say(n.name)
	case Call:
		t.say(n.name)
		t.list(n.parts)
	case In:
		t.say("in")
		t.list(nil)
	case Sizeof:
		t.say("sizeof", "(")
		t.base(n.typ)
		t.brackets(n.typ)
		t.say(")")
	case Index:
		t.node(n.parts[0])
		t.say("[")
		t.node(n.parts[1])
		t.say("]")
	case Member:
		t.node(n.parts[0])
		t.say(n.op, n.name)
	default:
		t.enclosed(n)
	}
}

// enclosed tells an expression that has parentheses round it.
func (t *teller) enclosed(n *Node) {
	t.say("(")
	switch n.kind {
	case Unary:
		t.say(n.op)
		t.node(n.parts[0])
	case Binary:
		t.node(n.parts[0])
		t.say(n.op)
		t.node(n.parts[1])
	case Cast:
		t.say("(")
		t.base(n.typ)
		t.say(")")
		t.node(n.parts[0])
	}
	t.say(")")
}
