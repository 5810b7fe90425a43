package core

import (
	"plumbob/api"
	"plumbob/state"
	"plumbob/val"
)

// eval tells the value of an expression.
func (m *machine) eval(n *Node) (api.Val, bool) {
	if !m.Use(n.Steps) {
		return api.Val{}, false
	}
	switch n.Kind {
	case Number:
		return val.Of(n.K), true
	case Variable:
		return m.here.vars[n.N], true
	case Local:
		return m.here.At(int64(n.N)), true
	case Global:
		return m.globals[n.N], true
	case Input:
		return m.Input(), true
	case Keep:
		return m.eval(n.Parts[0])
	case Binary:
		return m.binary(n)
	case Both, And:
		return m.truth(n, false)
	case Either, Or:
		return m.truth(n, true)
	case Let:
		return m.let(n)
	case Call:
		return m.callOf(n)
	}
	return m.ofOne(n)
}

// ofOne tells the value of an expression that hangs on its one part's.
func (m *machine) ofOne(n *Node) (api.Val, bool) {
	v, ok := m.eval(n.Parts[0])
	if !ok {
		return api.Val{}, false
	}
	switch n.Kind {
	case Unary:
		return m.Unary(n.Op, v)
	case Fixed:
		return m.Binary(n.Op, v, val.Of(n.K))
	}
	return m.load(n, v)
}

func (m *machine) load(n *Node, from api.Val) (api.Val, bool) {
	at, ok := m.behind(from, n.K)
	if !ok {
		return api.Val{}, false
	}
	return m.Load(n.Op, at)
}

func (m *machine) binary(n *Node) (api.Val, bool) {
	x, y, ok := m.both(n.Parts)
	if !ok {
		return api.Val{}, false
	}
	return m.Binary(n.Op, x, y)
}

func (m *machine) truth(n *Node, settling bool) (api.Val, bool) {
	isTrue, ok := m.logic(n, settling)
	if !ok {
		return api.Val{}, false
	}
	return state.Bit(isTrue), true
}

func (m *machine) let(n *Node) (api.Val, bool) {
	if !m.set(n) {
		return api.Val{}, false
	}
	return m.eval(n.Parts[1])
}

// set gives a node's first part to its variable.
func (m *machine) set(n *Node) bool {
	v, ok := m.eval(n.Parts[0])
	if ok {
		m.here.vars[n.N] = v
	}
	return ok
}

func (m *machine) callOf(n *Node) (api.Val, bool) {
	args := make([]api.Val, len(n.Parts))
	for i, part := range n.Parts {
		v, ok := m.eval(part)
		if !ok {
			return api.Val{}, false
		}
		args[i] = v
	}
	m.Show(api.Call, int64(n.N), 0)
	return m.call(&m.program.Functions[n.N], args)
}
