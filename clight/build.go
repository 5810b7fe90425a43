package clight

import (
	"plumbob/ast"
	"plumbob/check"
	"plumbob/types"
)

// program is one made ready to run: what hangs on its text alone is asked once.
type program struct {
	globals   []int // their sizes
	functions []function
	main      int // its number
}

type function struct {
	vars    []variable // the parameters first
	body    statement
	answers bool // a value
}

type variable struct {
	size    int
	isApart bool
}

// builder makes a program ready.
type builder struct {
	checked *check.Program
	table   *types.Table
	sigs    []check.Sig
	numbers map[string]int // the functions', by name
	globals map[string]int // their numbers, by name
	offsets map[field]int
	slots   map[string]int // the numbers of the variables of the function at hand, by name
	vars    []variable     // of that function
	answer  string         // the type that it answers
}

// field names one of a struct, which is told as a type.
type field struct{ record, name string }

func build(p *check.Program) *program {
	b := &builder{checked: p, table: p.Table(), sigs: p.Sigs(), numbers: map[string]int{}, globals: map[string]int{}, offsets: map[field]int{}}
	made := &program{}
	for i, g := range p.Globals() {
		b.globals[g.Name] = i
		made.globals = append(made.globals, b.size(g.Type))
	}
	for i, s := range b.sigs {
		b.numbers[s.Name] = i
	}
	made.main = b.numbers[p.Main().Name]
	parts := p.Tree().Parts()
	for _, n := range parts {
		if n.Kind() == ast.Struct {
			b.layOut(n.Name())
		}
	}
	for _, n := range parts {
		if n.Kind() == ast.Function {
			made.functions = append(made.functions, b.function(n, len(made.functions)))
		}
	}
	return made
}

func (b *builder) layOut(name string) {
	places, _ := b.table.Layout(name)
	for _, f := range places {
		b.offsets[field{"struct " + name, f.Name}] = f.Offset
	}
}

func (b *builder) size(typ string) int {
	size, _, _ := b.table.Size(typ)
	return size
}

func (b *builder) function(n *ast.Node, number int) function {
	b.answer, b.vars, b.slots = n.Type(), nil, map[string]int{}
	for i, v := range b.checked.Vars(number) {
		b.slots[v.Name] = i
		b.vars = append(b.vars, variable{size: b.size(v.Type), isApart: b.table.Scalar(v.Type) && !v.Taken})
	}
	parts := n.Parts()
	return function{vars: b.vars, body: b.statement(parts[len(parts)-1]), answers: b.answer != "void"}
}

func (b *builder) statement(n *ast.Node) statement {
	parts := n.Parts()
	switch n.Kind() {
	case ast.Block:
		return b.block(parts)
	case ast.Local:
		return b.local(n, parts)
	case ast.If:
		return b.choice(parts)
	case ast.While:
		return loop{b.value(parts[0]), b.statement(parts[1])}
	case ast.Break:
		return jump{breaks}
	case ast.Continue:
		return jump{continues}
	case ast.Return:
		return b.leaving(parts)
	case ast.Out:
		return output{b.value(parts[0])}
	case ast.Assign:
		return b.assignment(parts[0], parts[1])
	case ast.Value:
		return alone{b.value(parts[0])}
	}
	return jump{goesOn}
}

func (b *builder) block(parts []*ast.Node) statement {
	var l []statement
	for _, n := range parts {
		l = append(l, b.statement(n))
	}
	return block{l}
}

func (b *builder) local(n *ast.Node, first []*ast.Node) statement {
	if len(first) == 0 {
		return jump{goesOn}
	}
	e := b.fitted(first[0], n.Type())
	number := b.slots[n.Name()]
	if b.vars[number].isApart {
		return set{number, e}
	}
	// The name in a declaration uses no fuel: so its place is not counted.
	return store{slot{number}, e, b.vars[number].size}
}

func (b *builder) choice(parts []*ast.Node) statement {
	c := choice{test: b.value(parts[0]), then: b.statement(parts[1])}
	if len(parts) > 2 {
		c.alt = b.statement(parts[2])
	}
	return c
}

func (b *builder) leaving(parts []*ast.Node) statement {
	if len(parts) == 0 {
		return jump{returns}
	}
	return answer{b.fitted(parts[0], b.answer)}
}

func (b *builder) assignment(to, from *ast.Node) statement {
	typ := b.checked.TypeOf(to)
	e := b.fitted(from, typ)
	if b.isApart(to) {
		return set{b.slots[to.Name()], e}
	}
	return store{b.place(to), e, b.size(typ)}
}
