package check

import "plumbob/ast"

// notes keeps what is found of a tree's nodes, for the layers above. A type may be long, and many nodes' at once: each one is kept once.
type notes struct {
	types []string
	nodes []note // by the nodes' serials
}

type note struct {
	typ      int // its number among the types
	isGlobal bool
}

func newNotes(nodes int) notes {
	return notes{types: []string{""}, nodes: make([]note, nodes+1)}
}

func (l notes) typeOf(n *ast.Node) string { return l.types[l.of(n).typ] }

func (l notes) isGlobal(n *ast.Node) bool { return l.of(n).isGlobal }

// of tells nothing of a node that another tree has beyond this one's.
func (l notes) of(n *ast.Node) note {
	if n.Serial() >= len(l.nodes) {
		return note{}
	}
	return l.nodes[n.Serial()]
}

func (c *checker) noteType(n *ast.Node, typ string) {
	if typ == "" {
		return
	}
	number, isKnown := c.typeNumbers[typ]
	if !isKnown {
		number = len(c.notes.types)
		c.typeNumbers[typ] = number
		c.notes.types = append(c.notes.types, typ)
	}
	c.notes.nodes[n.Serial()].typ = number
}

func (c *checker) noteGlobal(n *ast.Node) { c.notes.nodes[n.Serial()].isGlobal = true }
