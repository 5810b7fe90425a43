package asm

import (
	"plumbob/api"
	"plumbob/state"
	"plumbob/val"
)

// callBytes is how much stack a call has for itself.
const callBytes = 8

// order has the registers of main's parameters.
var order = [...]int{7, 6, 2, 1, 8, 9}

// machine is a run under way. When one of its methods answers false, the run is over, and its Kind says why.
type machine struct {
	state.State
	program   *Prog
	hasLabels bool      // do Labels use fuel?
	goals     [][]int   // of each function's instructions, where those that jump go on
	pointers  []api.Val // to the globals' blocks
	registers [registers]api.Val
	flags     [2]api.Val // of none both are Undef: nothing can be told of these, either
	here      spot
	callers   []spot // where the calls that wait go on, the innermost last
	frames    []frame
	stack     int // its bytes
	limit     int // the most that it may have
	peak      int // the most that it had
}

// spot is the place of an instruction. There may be as many calls under way as there is fuel: so it is small.
type spot struct{ function, next int32 }

// frame is what a call has entered and not left.
type frame struct {
	block int
	size  int64
	depth int     // how many calls wait for the one that has it
	above api.Val // what rsp was ahead of it
}

// newMachine begins the run of a program that is well formed.
func newMachine(p *Prog, world []int64, fuel, limit int) *machine {
	m := &machine{State: state.New(world, fuel), program: p, limit: limit}
	for _, f := range p.Funcs {
		m.goals = append(m.goals, goalsOf(f.Code))
	}
	return m
}

func goalsOf(code []Ins) []int {
	places, goals := placesOf(code), make([]int, len(code))
	for n := range code {
		if code[n].jumps() {
			goals[n] = places[code[n].L]
		}
	}
	return goals
}

// run runs it from its beginning to its end.
func (m *machine) run(args []int64) {
	pointers, ok := m.Globals(m.program.Globals)
	if !ok {
		return
	}
	m.pointers = pointers
	for n, arg := range args {
		m.registers[order[n]] = val.Of(arg)
	}
	ok = m.grow(callBytes)
	m.begin(m.program.Main)
	for ok {
		ok = m.step()
	}
}

// grow gives the stack so many bytes more.
func (m *machine) grow(bytes int) bool {
	if bytes > m.limit-m.stack {
		return m.End(api.Overflow)
	}
	m.stack += bytes
	m.peak = max(m.peak, m.stack)
	return true
}

// begin goes to a function's first instruction.
func (m *machine) begin(function int) { m.here = spot{function: int32(function)} }

// step executes the next instruction. Behind a function's end is none: so that needs no fuel.
func (m *machine) step() bool {
	code := m.program.Funcs[m.here.function].Code
	if int(m.here.next) == len(code) {
		return m.End(api.Stuck)
	}
	i := &code[m.here.next]
	if (m.hasLabels || i.Op != Label) && !m.Use(1) {
		return false
	}
	m.here.next++
	switch i.Op {
	case Label:
		return true
	case Jmp:
		return m.jump()
	case Jcc:
		return m.choose(i)
	case Call:
		return m.call(i)
	case Ret:
		return m.back()
	case Enter:
		return m.enter(i)
	case Leave:
		return m.leave(i)
	}
	return m.deed(i)
}

// jump goes on where the instruction that is being executed leads to.
func (m *machine) jump() bool {
	m.here.next = int32(m.goals[m.here.function][m.here.next-1])
	return true
}

func (m *machine) choose(i *Ins) bool {
	holds, ok := m.Binary(i.Cc, m.flags[0], m.flags[1])
	if !ok {
		return false
	}
	taken, ok := m.Branch(holds)
	if taken {
		m.jump()
	}
	return ok
}

func (m *machine) call(i *Ins) bool {
	m.Show(api.Call, int64(i.Sub), 0)
	if !m.grow(callBytes) {
		return false
	}
	m.callers = append(m.callers, m.here)
	m.begin(i.Sub)
	m.flags = [2]api.Val{}
	return true
}

// back ends the innermost call.
func (m *machine) back() bool {
	if m.isFramed() {
		return m.End(api.Stuck)
	}
	last := len(m.callers) - 1
	if last < 0 {
		m.Halt(m.registers[rax])
		return false
	}
	m.here, m.callers = m.callers[last], m.callers[:last]
	m.stack -= callBytes
	m.flags = [2]api.Val{}
	return true
}

// isFramed tells whether the innermost call has a frame.
func (m *machine) isFramed() bool {
	last := len(m.frames) - 1
	return last >= 0 && m.frames[last].depth == len(m.callers)
}

// enter makes a frame. One that may not be is no matter of the stack: so this is asked first.
func (m *machine) enter(i *Ins) bool {
	if m.isFramed() {
		return m.End(api.Stuck)
	}
	if !m.grow(int(i.K)) {
		return false
	}
	block, ok := m.Block(int(i.K))
	if !ok {
		return false
	}
	m.frames = append(m.frames, frame{block, i.K, len(m.callers), m.registers[rsp]})
	m.registers[rsp] = val.At(block, 0)
	return true
}

func (m *machine) leave(i *Ins) bool {
	if !m.isFramed() {
		return m.End(api.Stuck)
	}
	last := len(m.frames) - 1
	f := m.frames[last]
	if f.size != i.K {
		return m.End(api.Stuck)
	}
	m.Free(f.block)
	m.frames = m.frames[:last]
	m.registers[rsp] = f.above
	m.stack -= int(f.size)
	return true
}
