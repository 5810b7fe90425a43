package check

import (
	"plumbob/api"
	"plumbob/ast"
	"plumbob/types"
)

// pass says that a node passes a limit.
func (c *checker) pass(n *ast.Node) { c.fail(api.ELIMIT, n.At()) }

// limits looks for a limit that is passed, in a tree that breaks no rule.
func (c *checker) limits() {
	table, number, e := types.New(records(c.structs))
	if e != api.OK {
		c.fail(e, c.structs[number].At())
		return
	}
	c.table = table
	for i, g := range c.globals {
		if i >= api.MaxVars || c.isTooGreat(g.Type()) {
			c.pass(g)
			break
		}
	}
	for _, n := range c.sizes {
		if c.isTooGreat(n.Type()) {
			c.pass(n)
			break
		}
	}
	c.limitsOfFunctions()
}

func records(structs []*ast.Node) []types.Struct {
	var l []types.Struct
	for _, s := range structs {
		r := types.Struct{Name: s.Name()}
		for _, f := range s.Parts() {
			r.Fields = append(r.Fields, types.Field{Name: f.Name(), Type: f.Type()})
		}
		l = append(l, r)
	}
	return l
}

func (c *checker) isTooGreat(typ string) bool {
	_, _, e := c.table.Size(typ)
	return e != api.OK
}

func (c *checker) limitsOfFunctions() {
functions:
	for _, f := range c.functions {
		if len(f.params) > api.MaxParams {
			c.pass(f.params[api.MaxParams])
			break
		}
		room := 0
		for i, v := range f.locals {
			size, _, e := c.table.Size(v.Type())
			room += madeUp(size)
			if e != api.OK || room > api.MaxSize || len(f.params)+i >= api.MaxVars {
				c.pass(v)
				break functions
			}
		}
	}
}

// madeUp tells the room that a variable takes.
func madeUp(size int) int { return (size + 7) / 8 * 8 }
