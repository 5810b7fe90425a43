package core

import (
	"plumbob/api"
	"plumbob/state"
	"plumbob/val"
)

// maxCalls is how many calls there may be within one another: as many as a source may have, so that every run ends.
const maxCalls = 1000

// machine is a run under way. When one of its methods answers false, the run is over, and its Kind says why.
type machine struct {
	state.State
	program *Prog
	globals []api.Val // the pointers to their blocks
	here    frame     // of the innermost call
	calls   int       // under way
}

// frame is what a call has of its own.
type frame struct {
	state.Frame
	vars   []api.Val
	answer api.Val
}

// start runs a program from its beginning to its end.
func (m *machine) start(args []api.Val) {
	globals, ok := m.Globals(m.program.Globals)
	if !ok {
		return
	}
	m.globals = globals
	if v, ok := m.call(&m.program.Functions[m.program.Main], args); ok {
		m.Halt(v)
	}
}

// call runs a function, and tells what it answers: Undef, if nothing.
func (m *machine) call(f *Function, args []api.Val) (api.Val, bool) {
	outer := m.here
	if !m.enter(f, args) || m.exec(f.Body) == ended {
		return api.Val{}, false
	}
	v := m.here.answer
	m.Leave(m.here.Frame)
	m.calls--
	m.here = outer
	return v, true
}

// enter begins a call: it makes its memory, and gives the parameters what they are called with.
func (m *machine) enter(f *Function, args []api.Val) bool {
	m.calls++
	if m.calls > maxCalls {
		return m.End(api.Stuck)
	}
	memory, ok := m.Enter(f.Frame, f.Cut)
	if !ok {
		return false
	}
	m.here = frame{Frame: memory, vars: make([]api.Val, f.Vars)}
	copy(m.here.vars, args)
	return true
}

// branch tells whether an expression is true, and shows that.
func (m *machine) branch(n *Node) (isTrue, ok bool) {
	if n.Kind == And || n.Kind == Or {
		if !m.Use(n.Steps) {
			return false, false
		}
		return m.logic(n, n.Kind == Or)
	}
	v, ok := m.eval(n)
	if !ok {
		return false, false
	}
	return m.Branch(v)
}

// logic tells whether both parts are true, or one of them: the first one's truth may settle it.
func (m *machine) logic(n *Node, settling bool) (isTrue, ok bool) {
	isTrue, ok = m.branch(n.Parts[0])
	if ok && isTrue != settling {
		return m.branch(n.Parts[1])
	}
	return isTrue, ok
}

// both tells the values of two expressions.
func (m *machine) both(parts []*Node) (first, second api.Val, ok bool) {
	if first, ok = m.eval(parts[0]); ok {
		second, ok = m.eval(parts[1])
	}
	return first, second, ok
}

// behind tells the address that stands so many bytes behind one.
func (m *machine) behind(at api.Val, k int64) (api.Val, bool) {
	return m.Binary(api.Add, at, val.Of(k))
}
