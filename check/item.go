package check

import (
	"plumbob/api"
	"plumbob/ast"
	"plumbob/types"
)

// lookAtStructs holds the structs against chapter 6's rules without their sizes: behind one that is too great, which passes a limit alone, there may be a wrong one.
func (c *checker) lookAtStructs() {
	table, number, e := types.New(hollow(c.structs))
	if e != api.OK {
		c.refuse(c.structs[number])
		return
	}
	c.table = table
	ahead := map[string]struct{}{}
structs:
	for _, s := range c.structs {
		record := "struct " + s.Name()
		fields := s.Parts()
		if len(fields) == 0 {
			c.refuse(s)
			break
		}
		for _, f := range fields {
			key := field{record, f.Name()}
			if _, isTwice := c.fields[key]; isTwice || !c.mayHold(f.Type(), ahead) {
				c.refuse(f)
				break structs
			}
			c.fields[key] = variable{typ: f.Type()}
		}
		ahead[record] = struct{}{}
	}
}

// hollow has structs of the same names with one small field each: whether a type has a size can be asked of them, whatever that is.
func hollow(structs []*ast.Node) []types.Struct {
	var l []types.Struct
	for _, s := range structs {
		l = append(l, types.Struct{Name: s.Name(), Fields: []types.Field{{Name: "c", Type: "char"}}})
	}
	return l
}

// mayHold tells whether a field may be of a type, with those structs ahead of its own.
func (c *checker) mayHold(typ string, ahead map[string]struct{}) bool {
	single := typ
	if isArray(typ) {
		single, _ = types.Elem(typ)
	}
	_, isAhead := ahead[single]
	return c.hasSize(typ) && (isAhead || c.table.Scalar(single))
}

func (c *checker) lookAtGlobals() {
	for _, g := range c.globals {
		if _, isTwice := c.outer[g.Name()]; isTwice || !c.hasSize(g.Type()) {
			c.refuse(g)
			break
		}
		c.outer[g.Name()] = variable{typ: g.Type()}
	}
}

// lookAtHeads looks at what stands ahead of the functions' bodies.
func (c *checker) lookAtHeads() {
functions:
	for i, f := range c.functions {
		if _, isTwice := c.numbers[f.sig.Name]; isTwice || f.sig.Type != "void" && !c.table.Scalar(f.sig.Type) {
			c.refuse(f.node)
			break
		}
		c.numbers[f.sig.Name] = i
		for _, p := range f.params {
			if !f.name(p) || !c.table.Scalar(p.Type()) {
				c.refuse(p)
				break functions
			}
		}
	}
}

// name gives a parameter's or variable's name to it, unless another one of the function has it.
func (f *function) name(n *ast.Node) bool {
	if _, isTwice := f.inner[n.Name()]; isTwice {
		return false
	}
	f.inner[n.Name()] = variable{typ: n.Type()}
	return true
}

func (c *checker) lookAtMain() {
	number, ok := c.numbers[mainName]
	if !ok {
		// What is missing has no place: the text's beginning stands for it, which the shortest text has.
		c.fail(api.ETYPE, api.Pos{Line: 1, Col: 1})
		return
	}
	f := c.functions[number]
	if f.sig.Type != "int" && f.sig.Type != "long" {
		c.refuse(f.node)
	}
	for _, p := range f.params {
		if !isInteger(p.Type()) {
			c.refuse(p)
		}
	}
}
