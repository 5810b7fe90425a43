package cmin

import (
	"strconv"
	"strings"

	"plumbob/api"
)

// kindNames has the words by which nodes are told.
var kindNames = [...]string{
	variable: "v", local: "local", global: "global", load: "load", both: "both", either: "either", input: "in", call: "call", let: "let", keep: "keep",
	block: "block", set: "set", store: "store", choice: "if", loop: "while", breaking: "break", continuing: "continue", answer: "return", output: "out", alone: "do",
}

var operationNames = [...]string{
	api.Neg: "neg", api.Not: "not", api.Ext8: "ext8", api.Ext32: "ext32",
	api.Add: "add", api.Sub: "sub", api.Mul: "mul", api.Div: "div", api.Mod: "mod", api.And: "and", api.Or: "or", api.Xor: "xor", api.Shl: "shl", api.Shr: "shr",
	api.Eq: "eq", api.Ne: "ne", api.Lt: "lt", api.Le: "le", api.Gt: "gt", api.Ge: "ge",
}

// teller tells a program: a line for each global, function and statement, each expression with its operation first.
type teller struct {
	text      strings.Builder
	functions []function
}

func (t *teller) program(p *Prog) {
	t.functions = p.functions
	for i, size := range p.globals {
		t.line("global", strconv.Itoa(i), "of", strconv.Itoa(size), "bytes")
	}
	for _, f := range p.functions {
		t.line("function", f.name, "of", strconv.Itoa(f.params), "with", strconv.Itoa(f.vars), "variables and", strconv.Itoa(f.frame), "bytes")
		t.statement(f.body, 1)
	}
}

func (t *teller) line(words ...string) { t.text.WriteString(strings.Join(words, " ") + "\n") }

// statement tells one, and behind it those that it is made of, further in.
func (t *teller) statement(n *node, depth int) {
	t.text.WriteString(strings.Repeat("\t", depth) + t.head(n))
	within := statementsOf(n)
	t.expressions(n.parts[:len(n.parts)-len(within)])
	t.text.WriteByte('\n')
	for _, s := range within {
		t.statement(s, depth+1)
	}
}

// statementsOf tells the statements that one is made of: its last parts.
func statementsOf(n *node) []*node {
	switch n.kind {
	case block:
		return n.parts
	case choice, loop:
		return n.parts[1:]
	}
	return nil
}

func (t *teller) expressions(l []*node) {
	for _, e := range l {
		t.text.WriteByte(' ')
		t.expression(e)
	}
}

func (t *teller) expression(n *node) {
	if len(n.parts) == 0 && n.kind != call {
		t.text.WriteString(t.head(n))
		return
	}
	t.text.WriteString("(" + t.head(n))
	t.expressions(n.parts)
	t.text.WriteByte(')')
}

// head tells a node without its parts.
func (t *teller) head(n *node) string {
	digits := strconv.FormatInt(n.n, 10)
	switch n.kind {
	case number:
		return digits
	case variable, local, global:
		return kindNames[n.kind] + digits
	case set, let:
		return kindNames[n.kind] + " " + kindNames[variable] + digits
	case load, store:
		return kindNames[n.kind] + strconv.Itoa(n.op)
	case unary, binary:
		return operationNames[n.op]
	case call:
		return kindNames[call] + " " + t.functions[n.n].name
	}
	return kindNames[n.kind]
}
