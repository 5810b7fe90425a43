package check

import (
	"plumbob/api"
	"plumbob/ast"
	"plumbob/types"
)

const mainName = "main"

// checker holds a tree's parts against the rules and the limits. It is the first fault that is told.
type checker struct {
	structs, globals []*ast.Node
	functions        []*function
	table            *types.Table // of hollow structs, while rules are asked
	fields           map[field]variable
	outer            map[string]variable // the globals, by name
	numbers          map[string]int      // the functions', by name
	sizes            []*ast.Node         // the sizeofs
	here             *function           // the one whose body is looked at
	notes            notes
	typeNumbers      map[string]int // those of the notes, by type
	fault            api.Pos
	e                api.Errno
}

// function is one, with what its body is found to have.
type function struct {
	node   *ast.Node
	params []*ast.Node
	body   *ast.Node
	sig    Sig
	inner  map[string]variable // its parameters and variables, by name
	loops  int                 // how many whiles stand around what is looked at
	locals []*ast.Node
	taken  map[string]struct{} // the names of those whose address is taken
}

// variable is what a name, or a field, stands for. One whose block has ended is kept, since its name may not be given again.
type variable struct {
	typ    string
	isOver bool
}

// field names one of a struct, which is told as a type.
type field struct{ record, name string }

func newChecker(p *ast.Program) *checker {
	c := &checker{fields: map[field]variable{}, outer: map[string]variable{}, numbers: map[string]int{}}
	c.notes, c.typeNumbers = newNotes(p.Nodes()), map[string]int{}
	for _, n := range p.Parts() {
		switch n.Kind() {
		case ast.Struct:
			c.structs = append(c.structs, n)
		case ast.Global:
			c.globals = append(c.globals, n)
		case ast.Function:
			c.functions = append(c.functions, newFunction(n))
		}
	}
	return c
}

func newFunction(n *ast.Node) *function {
	parts := n.Parts()
	last := len(parts) - 1
	f := &function{node: n, params: parts[:last], body: parts[last], inner: map[string]variable{}, taken: map[string]struct{}{}}
	f.sig = Sig{Name: n.Name(), Type: n.Type()}
	for _, p := range f.params {
		f.sig.Params = append(f.sig.Params, p.Type())
		f.sig.Public = append(f.sig.Public, p.Public())
	}
	return f
}

func (c *checker) sigs() []Sig {
	var l []Sig
	for _, f := range c.functions {
		l = append(l, f.sig)
	}
	return l
}

func (c *checker) vars() [][]Var {
	var l [][]Var
	for _, f := range c.functions {
		l = append(l, append(vars(f.params, f.taken), vars(f.locals, f.taken)...))
	}
	return l
}

// vars tells declared names, with those among them whose address is taken.
func vars(nodes []*ast.Node, taken map[string]struct{}) []Var {
	var l []Var
	for _, n := range nodes {
		_, isTaken := taken[n.Name()]
		l = append(l, Var{Name: n.Name(), Type: n.Type(), Taken: isTaken})
	}
	return l
}

func (c *checker) fail(e api.Errno, at api.Pos) {
	if c.e == api.OK {
		c.e, c.fault = e, at
	}
}

// refuse says that a node breaks a rule.
func (c *checker) refuse(n *ast.Node) { c.fail(api.ETYPE, n.At()) }

// rules looks for a broken rule. Each look may lean on what the ones ahead of it found to be right.
func (c *checker) rules() {
	for _, look := range []func(){c.lookAtStructs, c.lookAtGlobals, c.lookAtHeads, c.lookAtMain, c.lookAtBodies} {
		if c.e == api.OK {
			look()
		}
	}
}
