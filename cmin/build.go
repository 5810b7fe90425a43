package cmin

import (
	"plumbob/api"
	"plumbob/ast"
	"plumbob/check"
	"plumbob/core"
	"plumbob/simpl"
	"plumbob/types"
)

// builder makes a source a program without types.
type builder struct {
	checked *check.Program
	table   *types.Table
	sigs    []check.Sig
	numbers map[string]int // the functions', by name
	globals map[string]int // their numbers, by name
	offsets map[field]int

	// Of the function at hand:
	homes  map[string]home // by name
	answer string          // the type that it answers
	vars   int             // how many variables it has by its parameters and what is held apart
	held   int             // how many more hold a value at the place at hand
	spare  int             // how many more do so at most
}

// field names one of a struct, which is told as a type.
type field struct{ record, name string }

// home is where a parameter or variable lives: one that is held apart is a variable by its number, another one begins at a byte of the block.
type home struct {
	isApart bool
	at      int
}

func newBuilder(p *check.Program) *builder {
	return &builder{checked: p, table: p.Table(), sigs: p.Sigs(), numbers: map[string]int{}, globals: map[string]int{}, offsets: map[field]int{}}
}

func (b *builder) program() core.Prog {
	made := core.Prog{}
	for i, g := range b.checked.Globals() {
		b.globals[g.Name] = i
		made.Globals = append(made.Globals, b.size(g.Type))
	}
	for i, s := range b.sigs {
		b.numbers[s.Name] = i
	}
	made.Main = b.numbers[b.checked.Main().Name]
	parts := b.checked.Tree().Parts()
	for _, n := range parts {
		if n.Kind() == ast.Struct {
			b.layOut(n.Name())
		}
	}
	vars := b.varsByFunction()
	for _, n := range parts {
		if n.Kind() == ast.Function {
			made.Functions = append(made.Functions, b.function(n, vars[n.Name()]))
		}
	}
	return made
}

func (b *builder) varsByFunction() map[string][]simpl.Var {
	l := map[string][]simpl.Var{}
	for _, v := range simpl.Vars(b.checked) {
		l[v.Function] = append(l[v.Function], v)
	}
	return l
}

func (b *builder) layOut(name string) {
	places, _ := b.table.Layout(name)
	for _, f := range places {
		b.offsets[field{"struct " + name, f.Name}] = f.Offset
	}
}

func (b *builder) size(typ string) int {
	size, _, _ := b.table.Size(typ)
	return size
}

func (b *builder) function(n *ast.Node, vars []simpl.Var) core.Function {
	parts := n.Parts()
	f := core.Function{Name: n.Name(), Params: len(parts) - 1}
	b.homes, b.answer, b.vars, b.held, b.spare = map[string]home{}, n.Type(), 0, 0, 0
	b.settle(&f, vars)
	l := b.opening(vars[:f.Params], f.Name == b.checked.Main().Name)
	f.Body = of(core.Block, append(l, b.statement(parts[f.Params]))...)
	f.Vars = b.vars + b.spare
	return f
}

// settle gives a function's parameters and variables their homes.
func (b *builder) settle(f *core.Function, vars []simpl.Var) {
	for i, v := range vars {
		isParam := i < f.Params
		if v.Apart {
			b.homes[v.Name] = home{true, b.vars}
		} else {
			b.homes[v.Name] = home{false, f.Frame}
			f.Frame += madeUp(b.size(v.Type))
		}
		// A parameter is given its value as a variable, wherever it lives.
		if v.Apart || isParam {
			b.vars++
		}
		if isParam {
			f.Cut = f.Frame
		}
	}
	if f.Frame <= api.MaxSize {
		f.Cut = f.Frame
	}
}

// madeUp tells the room that a variable takes in a block, so that the next one begins where 8 divides.
func madeUp(size int) int { return (size + 7) / 8 * 8 }

// opening makes what is done with the parameters ahead of a function's body: main's come as any numbers, and those that need memory are to be laid there.
func (b *builder) opening(params []simpl.Var, isMain bool) []*core.Node {
	var l []*core.Node
	for i, v := range params {
		given := the(core.Variable, i)
		if isMain {
			given = converted(given, extension(v.Type, "long"))
		}
		h := b.homes[v.Name]
		switch {
		case !h.isApart:
			l = append(l, b.laying(the(core.Local, h.at), given, v.Type))
		case given.Kind != core.Variable: // it is converted
			l = append(l, the(core.Set, h.at, given))
		}
	}
	return l
}

// laying gives a value to a place of a type in the memory.
func (b *builder) laying(at, e *core.Node, typ string) *core.Node {
	return access(core.Store, b.size(typ), at, e)
}
