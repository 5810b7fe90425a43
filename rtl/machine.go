package rtl

import (
	"plumbob/api"
	"plumbob/state"
	"plumbob/val"
)

// maxCalls is how many calls there may be within one another, main's too.
const maxCalls = 20000

// machine is a run under way. When one of its methods answers false, the run is over, and its Kind says why.
type machine struct {
	state.State
	program *Prog
	lost    []int     // the registers that a caller loses at a call
	globals []api.Val // the pointers to their blocks
	calls   []call    // under way, the innermost last
}

// call is one that is under way.
type call struct {
	function  *Func
	registers []api.Val
	block     int // its frame
	node      int // the next one
	target    int // the register for what a call within it answers, or none
}

// start runs a program from its beginning to its end.
func (m *machine) start(args []api.Val) {
	globals, ok := m.Globals(m.program.Globals)
	if !ok {
		return
	}
	m.globals = globals
	ok = m.enter(&m.program.Funcs[m.program.Main], args)
	for ok {
		ok = m.step(&m.calls[len(m.calls)-1])
	}
}

// enter begins a call.
func (m *machine) enter(f *Func, args []api.Val) bool {
	if len(m.calls) >= maxCalls {
		return m.End(api.Stuck)
	}
	block, ok := m.Block(f.Frame)
	if !ok {
		return false
	}
	registers := make([]api.Val, f.Regs)
	for n, r := range f.Params {
		registers[r] = args[n]
	}
	m.calls = append(m.calls, call{function: f, registers: registers, block: block, node: f.Entry})
	return true
}

// leave ends the innermost call, which answers a value.
func (m *machine) leave(v api.Val) bool {
	last := len(m.calls) - 1
	m.Free(m.calls[last].block)
	m.calls = m.calls[:last]
	if last == 0 {
		m.Halt(v)
		return false
	}
	outer := &m.calls[last-1]
	outer.lose(m.lost)
	if outer.target != none {
		outer.registers[outer.target] = v
	}
	return true
}

// lose makes registers Undef, those that there are.
func (c *call) lose(registers []int) {
	for _, r := range registers {
		if c.function.hasRegister(r) {
			c.registers[r] = api.Val{}
		}
	}
}

// step executes the innermost call's next instruction.
func (m *machine) step(c *call) bool {
	if !m.Use(1) {
		return false
	}
	i := &c.function.Code[c.node]
	c.node = i.S
	switch i.Op {
	case Nop:
		return true
	case Store:
		return m.store(c, i)
	case Call:
		return m.call(c, i)
	case Cond:
		return m.choose(c, i)
	case Return:
		return m.leave(c.first(i))
	case Out:
		return m.Output(c.first(i))
	}
	v, ok := m.reckon(c, i)
	if ok {
		c.registers[i.D] = v
	}
	return ok
}

// reckon tells the value that goes to D.
func (m *machine) reckon(c *call, i *Instr) (api.Val, bool) {
	switch i.Op {
	case Copy:
		return c.first(i), true
	case Un:
		return m.Unary(i.Sub, c.first(i))
	case Bin:
		return m.Binary(i.Sub, c.first(i), c.second(i))
	case Load:
		at, ok := m.address(c, i)
		if !ok {
			return api.Val{}, false
		}
		return m.Load(i.Sub, at)
	case Global:
		return val.At(m.globals[i.Sub].Block, i.K), true
	case Frame:
		return val.At(c.block, i.K), true
	case In:
		return m.Input(), true
	}
	return val.Of(i.K), true
}

// first tells the value of A: Undef, if there is no register.
func (c *call) first(i *Instr) api.Val {
	if i.A == none {
		return api.Val{}
	}
	return c.registers[i.A]
}

// second tells the value of B: the constant, if there is no register.
func (c *call) second(i *Instr) api.Val {
	if i.B == none {
		return val.Of(i.K)
	}
	return c.registers[i.B]
}

// address tells where an access is.
func (m *machine) address(c *call, i *Instr) (api.Val, bool) {
	return m.Binary(api.Add, c.first(i), val.Of(i.K))
}

func (m *machine) store(c *call, i *Instr) bool {
	at, ok := m.address(c, i)
	return ok && m.Store(i.Sub, at, c.second(i))
}

func (m *machine) call(c *call, i *Instr) bool {
	m.Show(api.Call, int64(i.Sub), 0)
	args := make([]api.Val, len(i.Args))
	for n, r := range i.Args {
		args[n] = c.registers[r]
	}
	c.target = i.D
	return m.enter(&m.program.Funcs[i.Sub], args)
}

// choose goes on at S or T.
func (m *machine) choose(c *call, i *Instr) bool {
	v, ok := m.Binary(i.Sub, c.first(i), c.second(i))
	if !ok {
		return false
	}
	isTrue, ok := m.Branch(v)
	if !isTrue {
		c.node = i.T
	}
	return ok
}
