package ast

import (
	"slices"
	"strconv"
	"strings"

	"plumbob/api"
)

// The kinds of nodes, each with what it has beside Kind and At. Parts are told in the order of the text.
const (
	Struct   = iota + 1 // Name; Parts: Fields
	Field               // Name, Type
	Global              // Name, Type
	Function            // Name, Type; Parts: Params, and its Block as the last one
	Param               // Name, Type, Public

	Block    // Parts: statements
	Local    // a declaration: Name, Type; Parts: its first value, if it has one
	Empty    // a `;` alone
	If       // Parts: what is asked, a statement, and the one behind `else`, if there is one
	While    // Parts: what is asked, a statement
	Break    // `break`
	Continue // `continue`
	Return   // Parts: what is answered, if anything is
	Out      // Parts: what goes out
	Assign   // Parts: a place, what it is given
	Value    // an expression alone; Parts: it

	Number // N
	Name   // Name
	Call   // Name; Parts: arguments
	Unary  // Op; Parts: an operand
	Binary // Op; Parts: two operands
	Cast   // Type; Parts: an operand
	Index  // Parts: what stands ahead of the brackets, what stands within
	Member // Op, which is `.` or `->`; Name; Parts: what stands ahead
	In     // `in()`
	Sizeof // Type
)

// Node is a part of a tree: of what it is made can be asked, not changed. Parentheses make no node.
type Node struct {
	kind     int
	at       api.Pos
	name, op string
	n        int64
	typ      shape
	public   bool
	parts    []*Node
	serial   int
	height   int // of a statement or expression: how deep parts nest in it, itself and the parentheses round it too
}

// Kind tells which one it is.
func (n *Node) Kind() int { return n.kind }

// At tells its place: of the operator's word of Binary, Index and Member, of the name's of what has a Type and a Name, else of the first word.
func (n *Node) At() api.Pos { return n.at }

// Serial tells which statement or expression of its tree it is, from 1 to as many as there are; of another node 0.
func (n *Node) Serial() int { return n.serial }

// Name tells the name that it has.
func (n *Node) Name() string { return n.name }

// Op tells its operator.
func (n *Node) Op() string { return n.op }

// N tells the number that it is.
func (n *Node) N() int64 { return n.n }

// Type tells its type, as chapter 6 tells types (the number in brackets may be any here).
func (n *Node) Type() string { return n.typ.text() }

// Public tells whether it is told to be public.
func (n *Node) Public() bool { return n.public }

// Parts tells the nodes that it is made of.
func (n *Node) Parts() []*Node { return slices.Clone(n.parts) }

// shape is a type as it is written, with the brackets that stand behind it or behind the name that it is given to.
type shape struct {
	base   string // a keyword, or struct, a blank and a name
	stars  int
	isList bool
	count  int64 // of a list: the number in brackets
}

// structName tells the name of the struct that it is, if it is one and no pointer.
func (s shape) structName() (string, bool) {
	name, isStruct := strings.CutPrefix(s.base, "struct ")
	return name, isStruct && s.stars == 0
}

func (s shape) text() string {
	text := s.base + strings.Repeat("*", s.stars)
	if s.isList {
		text += "[" + strconv.FormatInt(s.count, 10) + "]"
	}
	return text
}
