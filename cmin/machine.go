package cmin

import (
	"plumbob/api"
	"plumbob/mem"
	"plumbob/trace"
	"plumbob/val"
)

// maxCalls is how many calls there may be within one another: as many as a source may have, so that every run ends.
const maxCalls = 1000

// machine is a run under way. When one of its methods answers false, the run is over, and its Kind says why.
type machine struct {
	program *Prog
	memory  *mem.Mem
	world   *trace.World
	globals []api.Val // the pointers to their blocks
	here    frame     // of the innermost call
	calls   int       // under way
	fuel    int
	run     api.Run
}

// frame is what a call has of its own.
type frame struct {
	vars      []api.Val
	low, high int // the blocks that have the bytes below the cut, and those from it on; 0, if there are none
	cut       int64
	answer    api.Val
}

// at tells the pointer to a byte of it.
func (f *frame) at(n int64) api.Val {
	if n < f.cut {
		return val.At(f.low, n)
	}
	return val.At(f.high, n-f.cut)
}

func (m *machine) end(kind int) bool {
	m.run.Kind = kind
	return false
}

// known hands on a value, if there is one; where there is none, the run has no meaning.
func (m *machine) known(v api.Val, isThere bool) (api.Val, bool) {
	if !isThere {
		return api.Val{}, m.end(api.Stuck)
	}
	return v, true
}

// step uses one of the fuel.
func (m *machine) step() bool {
	if m.run.Steps == m.fuel {
		return m.end(api.Fuel)
	}
	m.run.Steps++
	return true
}

func (m *machine) tell(kind int, v int64) {
	m.run.Events = append(m.run.Events, api.Event{Kind: kind, V: v})
}

func (m *machine) leak(kind int, a, b int64) {
	m.run.Leaks = append(m.run.Leaks, api.Leak{Kind: kind, A: a, B: b})
}

// start runs a program from its beginning to its end.
func (m *machine) start(args []api.Val) {
	for _, size := range m.program.globals {
		number, ok := m.lay(size)
		if !ok {
			return
		}
		m.memory.Zero(number)
		m.globals = append(m.globals, val.At(number, 0))
	}
	if v, ok := m.call(&m.program.functions[m.program.main], args); ok {
		m.halt(v)
	}
}

func (m *machine) halt(v api.Val) {
	if v.Kind != api.Int {
		m.end(api.Stuck)
		return
	}
	m.run.Kind, m.run.Exit = api.Halt, v.N
}

// lay makes a block, and tells its number. Of no bytes none is made: the source makes none there, and how many there may be is limited.
func (m *machine) lay(size int) (int, bool) {
	if size == 0 {
		return 0, true
	}
	number, e := m.memory.Alloc(size)
	if e != api.OK {
		return 0, m.end(api.Stuck)
	}
	return number, true
}

// call runs a function, and tells what it answers: Undef, if nothing.
func (m *machine) call(f *function, args []api.Val) (api.Val, bool) {
	outer := m.here
	if !m.enter(f, args) || m.exec(f.body) == ended {
		return api.Val{}, false
	}
	v := m.here.answer
	m.memory.Free(m.here.low)
	m.memory.Free(m.here.high)
	m.calls--
	m.here = outer
	return v, true
}

// enter begins a call: it makes the blocks, and gives the parameters what they are called with.
func (m *machine) enter(f *function, args []api.Val) bool {
	m.calls++
	if m.calls > maxCalls {
		return m.end(api.Stuck)
	}
	low, ok := m.lay(f.cut)
	if !ok {
		return false
	}
	high, ok := m.lay(f.frame - f.cut)
	if !ok {
		return false
	}
	m.here = frame{vars: make([]api.Val, f.vars), low: low, high: high, cut: int64(f.cut)}
	copy(m.here.vars, args)
	return true
}

// reach leaks the address of an access.
func (m *machine) reach(at api.Val) bool {
	if at.Kind != api.Ptr {
		return m.end(api.Stuck)
	}
	m.leak(api.Addr, int64(at.Block), at.N)
	return true
}

// branch tells whether an expression is true, and leaks that.
func (m *machine) branch(e *node) (isTrue, ok bool) {
	v, ok := m.eval(e)
	if !ok {
		return false, false
	}
	isTrue, ok = val.True(v)
	if !ok {
		return false, m.end(api.Stuck)
	}
	m.leak(api.Branch, bit(isTrue).N, 0)
	return isTrue, true
}

// both tells the values of two expressions.
func (m *machine) both(parts []*node) (first, second api.Val, ok bool) {
	if first, ok = m.eval(parts[0]); ok {
		second, ok = m.eval(parts[1])
	}
	return first, second, ok
}

// bit is the Int of a truth.
func bit(isTrue bool) api.Val {
	if isTrue {
		return val.Of(1)
	}
	return val.Of(0)
}
