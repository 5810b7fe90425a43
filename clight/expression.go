package clight

import (
	"plumbob/api"
	"plumbob/val"
)

// expression is what can be evaluated, to a value or to the address of a place. Fuel is used by what is counted alone.
type expression interface {
	eval(m *machine) (api.Val, bool)
}

// counted is a part of an expression as the text has it: it uses one ahead of all that it does.
type counted struct{ e expression }

func (c counted) eval(m *machine) (api.Val, bool) {
	if !m.step() {
		return api.Val{}, false
	}
	return c.e.eval(m)
}

type constant struct{ v api.Val }

func (c constant) eval(*machine) (api.Val, bool) { return c.v, true }

// slot is the value of a variable that is held apart, or the address of another one.
type slot struct{ number int }

func (s slot) eval(m *machine) (api.Val, bool) { return m.here.slots[s.number], true }

// global is the address of one.
type global struct{ number int }

func (g global) eval(m *machine) (api.Val, bool) { return m.globals[g.number], true }

// load is the value of a scalar place in the memory.
type load struct {
	at    expression
	chunk int
}

func (l load) eval(m *machine) (api.Val, bool) {
	at, ok := l.at.eval(m)
	if !ok || !m.reach(at) {
		return api.Val{}, false
	}
	return m.known(m.memory.Load(l.chunk, at))
}

// input is `in()`.
type input struct{}

func (input) eval(m *machine) (api.Val, bool) {
	n := m.world.Next()
	m.tell(api.In, n)
	return val.Of(n), true
}

// unary is `-` or `~`, or what a conversion does.
type unary struct {
	op int
	e  expression
}

func (u unary) eval(m *machine) (api.Val, bool) {
	v, ok := u.e.eval(m)
	if !ok {
		return v, false
	}
	return m.known(val.Un(u.op, v))
}

// negation is `!`.
type negation struct{ e expression }

func (n negation) eval(m *machine) (api.Val, bool) {
	v, ok := n.e.eval(m)
	if !ok {
		return v, false
	}
	isTrue, ok := val.True(v)
	return m.known(bit(!isTrue), ok)
}

// binary is an operation on two values that no pointer steps by.
type binary struct {
	op            int
	first, second expression
	isNarrow      bool // of type int
}

func (b binary) eval(m *machine) (api.Val, bool) {
	x, y, ok := m.both(b.first, b.second)
	if !ok {
		return api.Val{}, false
	}
	if (b.op == api.Div || b.op == api.Mod) && x.Kind == api.Int && y.Kind == api.Int {
		m.leak(api.Divide, x.N, y.N)
	}
	if b.refuses(x, y) {
		return m.stuck()
	}
	return m.known(val.Bin(b.op, x, y))
}

// refuses tells whether a source gives no meaning to what chapter 1 has one for.
func (b binary) refuses(x, y api.Val) bool {
	switch b.op {
	case api.Shl, api.Shr:
		return b.isNarrow && (y.N < 0 || y.N > 31)
	case api.Eq, api.Ne:
		return x.Kind == api.Ptr && y.Kind == api.Ptr && x.Block != y.Block
	}
	return false
}

// stride is a pointer that an integer, times a size, is put to or taken from.
type stride struct {
	op            int
	first, second expression
	isTurned      bool // the integer is the first
	size          api.Val
}

func (s stride) eval(m *machine) (api.Val, bool) {
	p, i, ok := m.both(s.first, s.second)
	if s.isTurned {
		p, i = i, p
	}
	if ok {
		i, ok = m.known(val.Bin(api.Mul, i, s.size))
	}
	if !ok {
		return api.Val{}, false
	}
	return m.known(val.Bin(s.op, p, i))
}

// shifted is the address of a field that does not stand at its struct's beginning.
type shifted struct {
	e      expression
	offset api.Val
}

func (s shifted) eval(m *machine) (api.Val, bool) {
	at, ok := s.e.eval(m)
	if !ok {
		return at, false
	}
	return m.known(val.Bin(api.Add, at, s.offset))
}

// logic is `&&` or `||`: the first one's truth may settle it.
type logic struct {
	first, second expression
	settling      bool
}

func (l logic) eval(m *machine) (api.Val, bool) {
	isTrue, ok := m.branch(l.first)
	if ok && isTrue != l.settling {
		isTrue, ok = m.branch(l.second)
	}
	return bit(isTrue), ok
}

// call is one, its arguments converted.
type call struct {
	number    int
	arguments []expression
}

func (c call) eval(m *machine) (api.Val, bool) {
	values := make([]api.Val, len(c.arguments))
	for i, a := range c.arguments {
		v, ok := a.eval(m)
		if !ok {
			return v, false
		}
		values[i] = v
	}
	m.leak(api.Call, int64(c.number), 0)
	return m.call(&m.program.functions[c.number], values)
}
