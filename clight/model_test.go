package clight

import (
	"math"
	"slices"
	"strconv"
	"strings"

	"plumbob/api"
	"plumbob/ast"
	"plumbob/mem"
	"plumbob/val"
)

// model runs a tree straight from its nodes: names are looked up when they are met, and values carry their types along. Nothing is asked of package check.
type model struct {
	structs   map[string]*ast.Node
	functions []*ast.Node
	globals   map[string]*cell
	memory    *mem.Mem
	world     []int64
	here      *scopes
	depth     int
	room      int
	limit     int
	steps     int
	leaks     []api.Leak
	events    []api.Event
	// How many leaks and events there are ahead of each step.
	leaksAt, eventsAt []int
}

// cell is a variable: its value, if it is held apart, or where it is.
type cell struct {
	typ     string
	isApart bool
	v       api.Val
}

// scopes has the variables that can be named in a call, and all that it has.
type scopes struct {
	open    []map[string]*cell
	all     map[string]*cell
	answers string // the type that its function answers
}

// thing is what an expression comes to: a value with its type, or a place.
type thing struct {
	typ string
	v   api.Val // the address, of a place that is not held apart
	c   *cell
	is  string // "value", "place", "apart"
}

// over is how a run ends, from wherever it is.
type over struct{ run api.Run }

// jumped is a statement that goes elsewhere.
type jumped struct {
	word string
	v    thing
}

// foretell tells a run by the model.
func foretell(tree *ast.Program, args, world []int64, fuel int) (m *model, r api.Run) {
	m = &model{structs: map[string]*ast.Node{}, globals: map[string]*cell{}, memory: mem.New(), world: world, limit: fuel}
	defer func() {
		o, isOver := recover().(over)
		if !isOver {
			panic("the model itself failed")
		}
		r = o.run
		r.Leaks, r.Events, r.Steps = m.leaks, m.events, m.steps
	}()
	for _, n := range tree.Parts() {
		switch n.Kind() {
		case ast.Struct:
			m.structs["struct "+n.Name()] = n
		case ast.Function:
			m.functions = append(m.functions, n)
		}
	}
	for _, n := range tree.Parts() {
		if n.Kind() == ast.Global {
			b, _ := m.memory.Alloc(m.size(n.Type()))
			m.memory.Zero(b)
			m.globals[n.Name()] = &cell{typ: n.Type(), v: val.At(b, 0)}
		}
	}
	i := slices.IndexFunc(m.functions, func(f *ast.Node) bool { return f.Name() == "main" })
	var values []thing
	for _, n := range args {
		values = append(values, thing{typ: "long", v: val.Of(n)})
	}
	end := m.call(m.functions[i], values)
	if end.v.Kind != api.Int {
		m.stuck()
	}
	panic(over{api.Run{Kind: api.Halt, Exit: end.v.N}})
}

// cut tells what a run with less fuel has done.
func (m *model) cut(fuel int) api.Run {
	return api.Run{Kind: api.Fuel, Steps: fuel, Leaks: m.leaks[:m.leaksAt[fuel]], Events: m.events[:m.eventsAt[fuel]]}
}

func (m *model) stuck() { panic(over{api.Run{Kind: api.Stuck}}) }

func (m *model) need(v api.Val, ok bool) api.Val {
	if !ok {
		m.stuck()
	}
	return v
}

func (m *model) spend() {
	m.leaksAt = append(m.leaksAt, len(m.leaks))
	m.eventsAt = append(m.eventsAt, len(m.events))
	if m.steps == m.limit {
		panic(over{api.Run{Kind: api.Fuel}})
	}
	m.steps++
}

func (m *model) seen(kind int, a, b int64) {
	m.leaks = append(m.leaks, api.Leak{Kind: kind, A: a, B: b})
}

func single(typ string) (string, int) {
	base, count, isArray := strings.Cut(typ, "[")
	if !isArray {
		return typ, 1
	}
	n, _ := strconv.Atoi(strings.TrimSuffix(count, "]"))
	return base, n
}

func (m *model) alignment(typ string) int {
	one, _ := single(typ)
	switch {
	case strings.HasSuffix(one, "*") || one == "long":
		return 8
	case one == "int":
		return 4
	case one == "char":
		return 1
	}
	most := 1
	for _, f := range m.structs[one].Parts() {
		most = max(most, m.alignment(f.Type()))
	}
	return most
}

func upTo(n, align int) int {
	for n%align != 0 {
		n++
	}
	return n
}

func (m *model) size(typ string) int {
	one, count := single(typ)
	if s, isStruct := m.structs[one]; isStruct {
		end, _ := m.field(s, "")
		return count * upTo(end, m.alignment(one))
	}
	return count * m.alignment(one)
}

// field tells where a field is, and its type; where the last one ends, if there is none.
func (m *model) field(s *ast.Node, name string) (int, string) {
	at := 0
	for _, f := range s.Parts() {
		at = upTo(at, m.alignment(f.Type()))
		if f.Name() == name {
			return at, f.Type()
		}
		at += m.size(f.Type())
	}
	return at, ""
}

// taken tells whether a name's address is taken in a part of a function where it stands for that function's variable.
func taken(n *ast.Node, name string, isOpen *bool) bool {
	before := *isOpen
	found := false
	if n.Kind() == ast.Local && n.Name() == name {
		*isOpen = true
	}
	if n.Kind() == ast.Unary && n.Op() == "&" && n.Parts()[0].Kind() == ast.Name && n.Parts()[0].Name() == name && *isOpen {
		found = true
	}
	for _, p := range n.Parts() {
		found = taken(p, name, isOpen) || found
	}
	if n.Kind() == ast.Block {
		*isOpen = before
	}
	return found
}

func declared(n *ast.Node) []*ast.Node {
	var list []*ast.Node
	if n.Kind() == ast.Local {
		list = append(list, n)
	}
	for _, p := range n.Parts() {
		list = append(list, declared(p)...)
	}
	return list
}

func (m *model) call(f *ast.Node, args []thing) thing {
	outer := m.here
	m.depth++
	if m.depth > 1000 {
		m.stuck()
	}
	parts := f.Parts()
	params, body := parts[:len(parts)-1], parts[len(parts)-1]
	all := map[string]*cell{}
	room := 0
	var blocks []int
	for i, n := range append(slices.Clone(params), declared(body)...) {
		isOpen := i < len(params)
		c := &cell{typ: n.Type()}
		isScalar := !strings.HasSuffix(c.typ, "]") && m.structs[c.typ] == nil
		c.isApart = isScalar && !taken(body, n.Name(), &isOpen)
		if !c.isApart {
			room += m.size(c.typ)
			if m.room+room > 1<<20 {
				m.stuck()
			}
			b, e := m.memory.Alloc(m.size(c.typ))
			if e != api.OK {
				m.stuck()
			}
			blocks = append(blocks, b)
			c.v = val.At(b, 0)
		}
		all[n.Name()] = c
	}
	m.room += room
	first := map[string]*cell{}
	for i, n := range params {
		c := all[n.Name()]
		first[n.Name()] = c
		v := m.converted(args[i], c.typ)
		if c.isApart {
			c.v = v
		} else {
			m.memory.Store(m.size(c.typ), c.v, v)
		}
	}
	m.here = &scopes{open: []map[string]*cell{first}, all: all, answers: f.Type()}
	end := m.execute(body)
	for _, b := range blocks {
		m.memory.Free(b)
	}
	m.room -= room
	m.depth--
	m.here = outer
	if end.word != "return" && f.Type() != "void" {
		m.stuck()
	}
	return thing{typ: f.Type(), v: end.v.v}
}

func (m *model) converted(t thing, typ string) api.Val {
	rank := map[string]int{"char": 1, "int": 2, "long": 3}
	if rank[typ] == 0 || rank[t.typ] <= rank[typ] {
		return t.v
	}
	return m.need(val.Un([]int{0, api.Ext8, api.Ext32}[rank[typ]], t.v))
}

func (m *model) isTrue(n *ast.Node) bool {
	v := m.value(n).v
	isTrue, ok := val.True(v)
	if !ok {
		m.stuck()
	}
	m.seen(api.Branch, truth(isTrue), 0)
	return isTrue
}

func (m *model) execute(n *ast.Node) jumped {
	m.spend()
	parts := n.Parts()
	switch n.Kind() {
	case ast.Block:
		m.here.open = append(m.here.open, map[string]*cell{})
		depth := len(m.here.open)
		for _, s := range parts {
			if j := m.execute(s); j.word != "" {
				m.here.open = m.here.open[:depth-1]
				return j
			}
		}
		m.here.open = m.here.open[:depth-1]
	case ast.Local:
		c := m.here.all[n.Name()]
		m.here.open[len(m.here.open)-1][n.Name()] = c
		if len(parts) > 0 {
			m.give(thing{typ: c.typ, v: c.v, c: c, is: map[bool]string{true: "apart", false: "place"}[c.isApart]}, parts[0])
		}
	case ast.If:
		if m.isTrue(parts[0]) {
			return m.execute(parts[1])
		}
		if len(parts) > 2 {
			return m.execute(parts[2])
		}
	case ast.While:
		for {
			m.spend()
			if !m.isTrue(parts[0]) {
				break
			}
			j := m.execute(parts[1])
			if j.word == "return" {
				return j
			}
			if j.word == "break" {
				break
			}
		}
	case ast.Break:
		return jumped{word: "break"}
	case ast.Continue:
		return jumped{word: "continue"}
	case ast.Return:
		j := jumped{word: "return"}
		if len(parts) > 0 {
			typ := m.here.answers
			t := m.value(parts[0])
			j.v = thing{typ: typ, v: m.converted(t, typ)}
		}
		return j
	case ast.Out:
		v := m.value(parts[0]).v
		if v.Kind != api.Int {
			m.stuck()
		}
		m.events = append(m.events, api.Event{Kind: api.Out, V: v.N})
	case ast.Assign:
		if parts[0].Kind() == ast.Name {
			if c := m.find(parts[0].Name()); c.isApart {
				m.give(thing{typ: c.typ, c: c, is: "apart"}, parts[1])
				break
			}
		}
		m.give(m.thing(parts[0]), parts[1])
	case ast.Value:
		m.value(parts[0])
	}
	return jumped{}
}

func (m *model) give(to thing, from *ast.Node) {
	v := m.converted(m.value(from), to.typ)
	if to.is == "apart" {
		to.c.v = v
		return
	}
	m.access(to.v)
	if !m.memory.Store(m.size(to.typ), to.v, v) {
		m.stuck()
	}
}

func (m *model) access(at api.Val) {
	if at.Kind != api.Ptr {
		m.stuck()
	}
	m.seen(api.Addr, int64(at.Block), at.N)
}

func (m *model) find(name string) *cell {
	for _, open := range slices.Backward(m.here.open) {
		if c := open[name]; c != nil {
			return c
		}
	}
	return m.globals[name]
}

// value tells the value of an expression.
func (m *model) value(n *ast.Node) thing {
	t := m.thing(n)
	if t.is == "apart" {
		return thing{typ: t.typ, v: t.c.v}
	}
	if t.is != "place" {
		return t
	}
	if one, _ := single(t.typ); one != t.typ {
		return thing{typ: one + "*", v: t.v}
	}
	m.access(t.v)
	return thing{typ: t.typ, v: m.need(m.memory.Load(m.size(t.typ), t.v))}
}

func (m *model) thing(n *ast.Node) thing {
	m.spend()
	parts := n.Parts()
	switch n.Kind() {
	case ast.Number:
		if n.N() > math.MaxInt32 {
			return thing{typ: "long", v: val.Of(n.N())}
		}
		return thing{typ: "int", v: val.Of(n.N())}
	case ast.Sizeof:
		return thing{typ: "int", v: val.Of(int64(m.size(n.Type())))}
	case ast.In:
		v := int64(0)
		if len(m.world) > 0 {
			v, m.world = m.world[0], m.world[1:]
		}
		m.events = append(m.events, api.Event{Kind: api.In, V: v})
		return thing{typ: "long", v: val.Of(v)}
	case ast.Name:
		c := m.find(n.Name())
		if c.isApart {
			return thing{typ: c.typ, c: c, is: "apart"}
		}
		return thing{typ: c.typ, v: c.v, is: "place"}
	case ast.Cast:
		t := m.value(parts[0])
		return thing{typ: n.Type(), v: m.converted(t, n.Type())}
	case ast.Index:
		return m.pointed(m.moved(api.Add, m.value(parts[0]), m.value(parts[1])))
	case ast.Member:
		return m.member(n, parts[0])
	case ast.Call:
		return m.called(n.Name(), parts)
	case ast.Unary:
		return m.unary(n.Op(), parts[0])
	}
	return m.binary(n.Op(), parts[0], parts[1])
}

func (m *model) called(name string, parts []*ast.Node) thing {
	i := slices.IndexFunc(m.functions, func(f *ast.Node) bool { return f.Name() == name })
	var args []thing
	for k, p := range parts {
		typ := m.functions[i].Parts()[k].Type()
		t := m.value(p)
		args = append(args, thing{typ: typ, v: m.converted(t, typ)})
	}
	m.seen(api.Call, int64(i), 0)
	return m.call(m.functions[i], args)
}

func (m *model) pointed(p thing) thing {
	return thing{typ: strings.TrimSuffix(p.typ, "*"), v: p.v, is: "place"}
}

func (m *model) moved(op int, p, i thing) thing {
	far := m.need(val.Bin(api.Mul, i.v, val.Of(int64(m.size(strings.TrimSuffix(p.typ, "*"))))))
	return thing{typ: p.typ, v: m.need(val.Bin(op, p.v, far))}
}

func (m *model) member(n, part *ast.Node) thing {
	var base thing
	if n.Op() == "." {
		base = m.thing(part)
	} else {
		base = m.pointed(m.value(part))
	}
	at, typ := m.field(m.structs[base.typ], n.Name())
	if at > 0 {
		base.v = m.need(val.Bin(api.Add, base.v, val.Of(int64(at))))
	}
	return thing{typ: typ, v: base.v, is: "place"}
}

func (m *model) unary(op string, part *ast.Node) thing {
	if op == "&" {
		t := m.thing(part)
		return thing{typ: t.typ + "*", v: t.v}
	}
	t := m.value(part)
	switch op {
	case "*":
		return m.pointed(t)
	case "!":
		isTrue, ok := val.True(t.v)
		if !ok {
			m.stuck()
		}
		return thing{typ: "int", v: val.Of(truth(!isTrue))}
	case "~":
		return m.fitted(join(t.typ, "char"), m.need(val.Un(api.Not, t.v)))
	}
	return m.fitted(join(t.typ, "char"), m.need(val.Un(api.Neg, t.v)))
}

// fitted makes what was reckoned in 64 bits a value of a type.
func (m *model) fitted(typ string, v api.Val) thing {
	return thing{typ: typ, v: m.converted(thing{typ: "long", v: v}, typ)}
}

func (m *model) binary(op string, left, right *ast.Node) thing {
	if op == "&&" || op == "||" {
		if m.isTrue(left) == (op == "||") {
			return thing{typ: "int", v: val.Of(truth(op == "||"))}
		}
		return thing{typ: "int", v: val.Of(truth(m.isTrue(right)))}
	}
	a, b := m.value(left), m.value(right)
	code := map[string]int{"+": api.Add, "-": api.Sub, "*": api.Mul, "/": api.Div, "%": api.Mod, "&": api.And, "|": api.Or, "^": api.Xor, "<<": api.Shl, ">>": api.Shr, "==": api.Eq, "!=": api.Ne, "<": api.Lt, "<=": api.Le, ">": api.Gt, ">=": api.Ge}[op]
	typ := join(a.typ, b.typ)
	switch op {
	case "+", "-":
		if strings.HasSuffix(a.typ, "*") {
			return m.moved(code, a, b)
		}
		if strings.HasSuffix(b.typ, "*") {
			return m.moved(code, b, a)
		}
	case "/", "%":
		if a.v.Kind == api.Int && b.v.Kind == api.Int {
			m.seen(api.Divide, a.v.N, b.v.N)
		}
	case "<<", ">>":
		typ = join(a.typ, "char")
		if typ == "int" && (b.v.N < 0 || b.v.N >= 32) {
			m.stuck()
		}
	case "==", "!=":
		if a.v.Kind == api.Ptr && b.v.Kind == api.Ptr && a.v.Block != b.v.Block {
			m.stuck()
		}
	}
	if code >= api.Eq {
		typ = "int"
	}
	return m.fitted(typ, m.need(val.Bin(code, a.v, b.v)))
}
