package cmin

import (
	"plumbob/api"
	"plumbob/val"
)

// eval tells the value of an expression.
func (m *machine) eval(n *node) (api.Val, bool) {
	if !m.step() {
		return api.Val{}, false
	}
	switch n.kind {
	case number:
		return val.Of(n.n), true
	case variable:
		return m.here.vars[n.n], true
	case local:
		return m.here.at(n.n), true
	case global:
		return m.globals[n.n], true
	case input:
		return m.input(), true
	case keep:
		return m.eval(n.parts[0])
	case load:
		return m.load(n)
	case unary:
		return m.unary(n)
	case binary:
		return m.binary(n)
	case both:
		return m.logic(n, false)
	case either:
		return m.logic(n, true)
	case let:
		return m.let(n)
	}
	return m.callOf(n)
}

func (m *machine) input() api.Val {
	n := m.world.Next()
	m.tell(api.In, n)
	return val.Of(n)
}

func (m *machine) load(n *node) (api.Val, bool) {
	at, ok := m.eval(n.parts[0])
	if !ok || !m.reach(at) {
		return api.Val{}, false
	}
	return m.known(m.memory.Load(n.op, at))
}

func (m *machine) unary(n *node) (api.Val, bool) {
	v, ok := m.eval(n.parts[0])
	if !ok {
		return api.Val{}, false
	}
	return m.known(val.Un(n.op, v))
}

func (m *machine) binary(n *node) (api.Val, bool) {
	x, y, ok := m.both(n.parts)
	if !ok {
		return api.Val{}, false
	}
	if (n.op == api.Div || n.op == api.Mod) && x.Kind == api.Int && y.Kind == api.Int {
		m.leak(api.Divide, x.N, y.N)
	}
	return m.known(val.Bin(n.op, x, y))
}

// logic tells whether both parts are true, or one of them: the first one's truth may settle it.
func (m *machine) logic(n *node, settling bool) (api.Val, bool) {
	isTrue, ok := m.branch(n.parts[0])
	if ok && isTrue != settling {
		isTrue, ok = m.branch(n.parts[1])
	}
	if !ok {
		return api.Val{}, false
	}
	return bit(isTrue), true
}

func (m *machine) let(n *node) (api.Val, bool) {
	if !m.set(n) {
		return api.Val{}, false
	}
	return m.eval(n.parts[1])
}

// set gives a node's first part to its variable.
func (m *machine) set(n *node) bool {
	v, ok := m.eval(n.parts[0])
	if ok {
		m.here.vars[n.n] = v
	}
	return ok
}

func (m *machine) callOf(n *node) (api.Val, bool) {
	args := make([]api.Val, len(n.parts))
	for i, part := range n.parts {
		v, ok := m.eval(part)
		if !ok {
			return api.Val{}, false
		}
		args[i] = v
	}
	m.leak(api.Call, n.n, 0)
	return m.call(&m.program.functions[n.n], args)
}
