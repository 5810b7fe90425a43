package core

import (
	"strconv"
	"strings"

	"plumbob/words"
)

// kindNames has the words by which nodes are told.
var kindNames = [...]string{
	Variable: "v", Local: "local", Global: "global", Load: "load", Both: "both", Either: "either", And: "&&", Or: "||", Input: "in", Call: "call", Let: "let", Keep: "keep",
	Block: "block", Set: "set", Store: "store", Choice: "if", Loop: "while", Breaking: "break", Continuing: "continue", Answer: "return", Output: "out", Alone: "do",
}

// teller tells a program: a line for each global, function and statement, each expression with its operation first.
type teller struct {
	text      strings.Builder
	functions []Function
}

func (t *teller) program(p *Prog) {
	t.functions = p.Functions
	for i, size := range p.Globals {
		t.line("global", strconv.Itoa(i), "of", strconv.Itoa(size), "bytes")
	}
	for _, f := range p.Functions {
		t.line("function", f.Name, "of", strconv.Itoa(f.Params), "with", strconv.Itoa(f.Vars), "variables and", strconv.Itoa(f.Frame), "bytes")
		t.statement(f.Body, 1)
	}
}

func (t *teller) line(l ...string) { t.text.WriteString(strings.Join(l, " ") + "\n") }

// statement tells one, and behind it those that it is made of, further in.
func (t *teller) statement(n *Node, depth int) {
	t.text.WriteString(strings.Repeat("\t", depth) + t.head(n))
	within := statementsOf(n)
	t.expressions(n.Parts[:len(n.Parts)-len(within)])
	t.text.WriteByte('\n')
	for _, s := range within {
		t.statement(s, depth+1)
	}
}

// statementsOf tells the statements that one is made of: its last parts.
func statementsOf(n *Node) []*Node {
	switch n.Kind {
	case Block:
		return n.Parts
	case Choice, Loop:
		return n.Parts[1:]
	}
	return nil
}

func (t *teller) expressions(l []*Node) {
	for _, e := range l {
		t.text.WriteByte(' ')
		t.expression(e)
	}
}

func (t *teller) expression(n *Node) {
	if len(n.Parts) == 0 && n.Kind != Call {
		t.text.WriteString(t.head(n))
		return
	}
	t.text.WriteString("(" + t.head(n))
	t.expressions(n.Parts)
	t.text.WriteByte(')')
}

// head tells a node without its parts.
func (t *teller) head(n *Node) string {
	digits := strconv.Itoa(n.N)
	switch n.Kind {
	case Number:
		return strconv.FormatInt(n.K, 10)
	case Variable, Local, Global:
		return kindNames[n.Kind] + digits
	case Set, Let:
		return kindNames[n.Kind] + " " + kindNames[Variable] + digits
	case Load, Store:
		return kindNames[n.Kind] + strconv.Itoa(n.Op) + offset(n.K)
	case Unary, Binary:
		return words.Operation(n.Op)
	case Fixed:
		return words.Operation(n.Op) + mark(n.K)
	case Call:
		return kindNames[Call] + " " + t.functions[n.N].Name
	}
	return kindNames[n.Kind]
}

// mark tells a constant that belongs to a node.
func mark(k int64) string { return "#" + strconv.FormatInt(k, 10) }

func offset(k int64) string {
	if k == 0 {
		return ""
	}
	return mark(k)
}
