package rtl

import (
	"plumbob/api"
	"plumbob/state"
)

// MaxCalls is how many calls there may be within one another, main's too.
const MaxCalls = 20000

// machine is a run under way. When one of its methods answers false, the run is over, and its Kind says why.
type machine struct {
	state.State
	program *Prog
	lost    []int     // the registers that a caller loses at a call
	globals []api.Val // the pointers to their blocks
	calls   []call    // under way, the innermost last
}

// call is one that is under way.
type call struct {
	Scene
	function *Func
	node     int // the next one
	target   int // the register for what a call within it answers, or none
}

// start runs a program from its beginning to its end.
func (m *machine) start(args []api.Val) {
	globals, ok := m.Globals(m.program.Globals)
	if !ok {
		return
	}
	m.globals = globals
	ok = m.enter(&m.program.Funcs[m.program.Main], args)
	for ok {
		ok = m.step(&m.calls[len(m.calls)-1])
	}
}

// enter begins a call.
func (m *machine) enter(f *Func, args []api.Val) bool {
	if len(m.calls) >= MaxCalls {
		return m.End(api.Stuck)
	}
	block, ok := m.Block(f.Frame)
	if !ok {
		return false
	}
	registers := make([]api.Val, f.Regs)
	for n, r := range f.Params {
		registers[r] = args[n]
	}
	m.calls = append(m.calls, call{Scene: Scene{&m.State, m.globals, registers, block}, function: f, node: f.Entry})
	return true
}

// leave ends the innermost call, which answers a value.
func (m *machine) leave(v api.Val) bool {
	last := len(m.calls) - 1
	m.Free(m.calls[last].Home)
	m.calls = m.calls[:last]
	if last == 0 {
		m.Halt(v)
		return false
	}
	outer := &m.calls[last-1]
	outer.lose(m.lost)
	if outer.target != none {
		outer.Registers[outer.target] = v
	}
	return true
}

// lose makes registers Undef, those that there are.
func (c *call) lose(registers []int) {
	for _, r := range registers {
		if c.function.hasRegister(r) {
			c.Registers[r] = api.Val{}
		}
	}
}

// step executes the innermost call's next instruction.
func (m *machine) step(c *call) bool {
	if !m.Use(1) {
		return false
	}
	i := &c.function.Code[c.node]
	c.node = i.S
	switch i.Op {
	case Call:
		return m.call(c, i)
	case Cond:
		return c.choose(i)
	case Return:
		return m.leave(c.first(i))
	}
	return c.Do(i)
}

func (m *machine) call(c *call, i *Instr) bool {
	m.Show(api.Call, int64(i.Sub), 0)
	args := make([]api.Val, len(i.Args))
	for n, r := range i.Args {
		args[n] = c.Registers[r]
	}
	c.target = i.D
	return m.enter(&m.program.Funcs[i.Sub], args)
}

// choose goes on at S or T.
func (c *call) choose(i *Instr) bool {
	isSo, ok := c.Choose(i)
	if !isSo {
		c.node = i.T
	}
	return ok
}
