package mach

import (
	"plumbob/api"
	"plumbob/linear"
	"plumbob/ltl"
	"plumbob/rtl"
	"plumbob/state"
	"plumbob/val"
)

// The registers that no deed names hold words, while a deed that names those is done.
const (
	first  = 10 // A's, and D's
	second = 11 // B's
)

// machine is a run under way. When one of its methods answers false, the run is over, and its Kind says why.
type machine struct {
	state.State
	program   *Prog
	pointers  []api.Val // to the globals' blocks
	registers []api.Val // all calls have the same
	calls     []call    // under way, the innermost last
}

// call is one that is under way.
type call struct {
	rtl.Scene
	function *Func
	places   linear.Places
	next     int // the instruction's place
}

// start runs a program from its beginning to its end.
func (m *machine) start(args []api.Val) {
	pointers, ok := m.Globals(m.program.made.Globals)
	if !ok {
		return
	}
	m.pointers, m.registers = pointers, make([]api.Val, ltl.FirstSlot)
	for n, v := range args {
		loc, _ := ltl.Param(n)
		m.registers[loc] = v
	}
	ok = m.enter(m.program.made.Main)
	for ok {
		ok = m.step(&m.calls[len(m.calls)-1])
	}
}

// enter begins a call: all that it gets is its frame.
func (m *machine) enter(number int) bool {
	if len(m.calls) >= rtl.MaxCalls {
		return m.End(api.Stuck)
	}
	f := &m.program.made.Functions[number]
	block, ok := m.Block(f.Frame)
	if !ok {
		return false
	}
	scene := rtl.Scene{State: &m.State, Pointers: m.pointers, Registers: m.registers, Home: block}
	m.calls = append(m.calls, call{Scene: scene, function: f, places: m.program.places[number]})
	return true
}

// leave ends the innermost call.
func (m *machine) leave(c *call) bool {
	m.Free(c.Home)
	m.calls = m.calls[:len(m.calls)-1]
	if len(m.calls) == 0 {
		m.Halt(m.registers[ltl.Answer])
		return false
	}
	return true
}

// step executes the innermost call's next instruction.
func (m *machine) step(c *call) bool {
	if !m.Use(1) {
		return false
	}
	i := &c.function.Code[c.next]
	c.next++
	switch i.Kind {
	case linear.Plain:
		return c.do(i.Deed)
	case linear.Jump:
		c.jump(i)
	case linear.Choice:
		return c.choose(i)
	case linear.Call:
		m.Show(api.Call, int64(i.Deed.Sub), 0)
		return m.enter(i.Deed.Sub)
	case linear.Return:
		return m.leave(c)
	case Blank:
		m.registers[i.Deed.D] = api.Val{}
	}
	return true
}

func (c *call) jump(i *linear.Ins) { c.next = c.places[i.Label] }

func (c *call) choose(i *linear.Ins) bool {
	deed := i.Deed
	if !c.bring(&deed) {
		return false
	}
	isSo, ok := c.Choose(&deed)
	if ok && isSo == i.IfSo {
		c.jump(i)
	}
	return ok
}

// do does a deed that goes straight on.
func (c *call) do(deed rtl.Instr) bool {
	if !c.bring(&deed) {
		return false
	}
	if deed.D < ltl.FirstSlot {
		return c.Do(&deed)
	}
	at := c.word(deed.D)
	deed.D = first
	return c.Do(&deed) && c.Store(wordBytes, at, c.Registers[first])
}

// bring gives a deed registers in the place of the words that it reads.
func (c *call) bring(deed *rtl.Instr) bool {
	return c.load(&deed.A, first) && c.load(&deed.B, second)
}

func (c *call) load(loc *int, register int) bool {
	if *loc < ltl.FirstSlot {
		return true
	}
	v, ok := c.Load(wordBytes, c.word(*loc))
	c.Registers[register], *loc = v, register
	return ok
}

// word points to a word.
func (c *call) word(loc int) api.Val { return val.At(c.Home, int64(c.function.Word(loc))) }
