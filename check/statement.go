package check

import (
	"plumbob/api"
	"plumbob/ast"
)

func (c *checker) lookAtBodies() {
functions:
	for _, f := range c.functions {
		c.here = f
		for _, n := range f.body.Parts() {
			c.statement(n)
			if c.e != api.OK {
				break functions
			}
		}
	}
}

func (c *checker) statement(n *ast.Node) {
	parts := n.Parts()
	switch n.Kind() {
	case ast.Block:
		c.block(parts)
	case ast.Local:
		c.local(n, parts)
	case ast.If:
		c.value(parts[0])
		for _, s := range parts[1:] {
			c.statement(s)
		}
	case ast.While:
		c.value(parts[0])
		c.here.loops++
		c.statement(parts[1])
		c.here.loops--
	case ast.Break, ast.Continue:
		if c.here.loops == 0 {
			c.refuse(n)
		}
	case ast.Return:
		c.answer(n, parts)
	case ast.Out:
		if !isInteger(c.value(parts[0]).typ) {
			c.refuse(n)
		}
	case ast.Assign:
		c.give(n, c.expression(parts[0]), parts[1])
	case ast.Value:
		c.alone(parts[0])
	}
}

// block ends the variables that are its own behind its statements.
func (c *checker) block(parts []*ast.Node) {
	for _, n := range parts {
		c.statement(n)
	}
	for _, n := range parts {
		if n.Kind() == ast.Local {
			c.here.inner[n.Name()] = variable{typ: n.Type(), isOver: true}
		}
	}
}

// local names the variable ahead of its first value, which may name it.
func (c *checker) local(n *ast.Node, first []*ast.Node) {
	if !c.here.name(n) || !c.hasSize(n.Type()) {
		c.refuse(n)
	}
	c.here.locals = append(c.here.locals, n)
	for _, e := range first {
		c.give(n, place(n.Type()), e)
	}
}

// give looks at a statement that gives a place what an expression comes to.
func (c *checker) give(n *ast.Node, to typed, e *ast.Node) {
	if !fits(c.value(e), to.typ) || !to.isPlace || !c.table.Scalar(to.typ) {
		c.refuse(n)
	}
}

func (c *checker) answer(n *ast.Node, parts []*ast.Node) {
	typ := c.here.sig.Type
	isRight := typ == "void"
	if len(parts) > 0 {
		isRight = fits(c.value(parts[0]), typ)
	}
	if !isRight {
		c.refuse(n)
	}
}

// alone looks at an expression that is a statement: here alone a call need not come to a value.
func (c *checker) alone(n *ast.Node) {
	if e := c.expression(n); e.typ != "void" {
		c.asValue(n, e)
	}
}
