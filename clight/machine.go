package clight

import (
	"plumbob/api"
	"plumbob/mem"
	"plumbob/trace"
	"plumbob/val"
)

const (
	maxCalls = 1000    // within one another
	maxRoom  = 1 << 20 // bytes of the blocks of all calls under way
)

// machine is a run under way. When one of its methods answers false, the run is over, and its Kind says why.
type machine struct {
	program *program
	memory  *mem.Mem
	world   *trace.World
	globals []api.Val // the pointers to their blocks
	here    frame     // of the innermost call
	calls   int       // under way
	room    int       // that their blocks take
	fuel    int
	run     api.Run
}

// frame is what a call has of its own.
type frame struct {
	slots  []api.Val // by variable: its value, if it is held apart, else the pointer to its block
	answer api.Val
}

func (m *machine) end(kind int) bool {
	m.run.Kind = kind
	return false
}

func (m *machine) stuck() (api.Val, bool) { return api.Val{}, m.end(api.Stuck) }

// known hands on a value, if there is one; where there is none, the run has no meaning.
func (m *machine) known(v api.Val, isThere bool) (api.Val, bool) {
	if !isThere {
		return m.stuck()
	}
	return v, true
}

// step uses one of the fuel.
func (m *machine) step() bool {
	if m.run.Steps == m.fuel {
		return m.end(api.Fuel)
	}
	m.run.Steps++
	return true
}

func (m *machine) tell(kind int, v int64) {
	m.run.Events = append(m.run.Events, api.Event{Kind: kind, V: v})
}

func (m *machine) leak(kind int, a, b int64) {
	m.run.Leaks = append(m.run.Leaks, api.Leak{Kind: kind, A: a, B: b})
}

// start runs a program from its beginning to its end.
func (m *machine) start(args []api.Val) {
	for _, size := range m.program.globals {
		at, ok := m.lay(size)
		if !ok {
			return
		}
		m.memory.Zero(at.Block)
		m.globals = append(m.globals, at)
	}
	if v, ok := m.call(&m.program.functions[m.program.main], args); ok {
		m.halt(v)
	}
}

func (m *machine) halt(v api.Val) {
	if v.Kind != api.Int {
		m.end(api.Stuck)
		return
	}
	m.run.Kind, m.run.Exit = api.Halt, v.N
}

// lay makes a block, and tells the pointer to it.
func (m *machine) lay(size int) (api.Val, bool) {
	block, e := m.memory.Alloc(size)
	return m.known(val.At(block, 0), e == api.OK)
}

// call runs a function, and tells its value: of one that answers none, Undef.
func (m *machine) call(f *function, args []api.Val) (api.Val, bool) {
	outer := m.here
	if !m.enter(f, args) {
		return api.Val{}, false
	}
	how := m.exec(f.body)
	if how == ended {
		return api.Val{}, false
	}
	answer := m.here.answer
	m.leave(f)
	m.here = outer
	return m.known(answer, how == returns || !f.answers)
}

// enter begins a call: it makes the blocks, and gives the parameters what they are called with.
func (m *machine) enter(f *function, args []api.Val) bool {
	m.calls++
	if m.calls > maxCalls {
		return m.end(api.Stuck)
	}
	m.here = frame{slots: make([]api.Val, len(f.vars))}
	for i, v := range f.vars {
		if v.isApart {
			continue
		}
		m.room += v.size
		if m.room > maxRoom {
			return m.end(api.Stuck)
		}
		at, ok := m.lay(v.size)
		if !ok {
			return false
		}
		m.here.slots[i] = at
	}
	for i, a := range args {
		if f.vars[i].isApart {
			m.here.slots[i] = a
		} else {
			// That can't be refused: the block is new, and a value of a type has room in it.
			m.memory.Store(f.vars[i].size, m.here.slots[i], a)
		}
	}
	return true
}

// leave ends the innermost call.
func (m *machine) leave(f *function) {
	for i, v := range f.vars {
		if !v.isApart {
			m.memory.Free(m.here.slots[i].Block)
			m.room -= v.size
		}
	}
	m.calls--
}

// reach leaks the address of an access.
func (m *machine) reach(at api.Val) bool {
	if at.Kind != api.Ptr {
		return m.end(api.Stuck)
	}
	m.leak(api.Addr, int64(at.Block), at.N)
	return true
}

// branch tells whether an expression is true, and leaks that.
func (m *machine) branch(e expression) (isTrue, ok bool) {
	v, ok := e.eval(m)
	if !ok {
		return false, false
	}
	isTrue, ok = val.True(v)
	if !ok {
		return false, m.end(api.Stuck)
	}
	m.leak(api.Branch, bit(isTrue).N, 0)
	return isTrue, true
}

// both tells the values of two expressions.
func (m *machine) both(first, second expression) (a, b api.Val, ok bool) {
	if a, ok = first.eval(m); ok {
		b, ok = second.eval(m)
	}
	return a, b, ok
}

// bit is the Int of a truth.
func bit(isTrue bool) api.Val {
	if isTrue {
		return val.Of(1)
	}
	return val.Of(0)
}
