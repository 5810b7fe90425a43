package linear

import (
	"plumbob/api"
	"plumbob/ltl"
	"plumbob/rtl"
	"plumbob/state"
)

// Places has, by label, where it stands in a row.
type Places []int

// PlacesOf tells the places of a row's labels.
func PlacesOf(code []Ins) Places {
	var l Places
	for at, i := range code {
		if i.Kind != Label {
			continue
		}
		for len(l) <= i.Label {
			l = append(l, none)
		}
		l[i.Label] = at
	}
	return l
}

// machine is a run under way. When one of its methods answers false, the run is over, and its Kind says why.
type machine struct {
	state.State
	program  *Prog
	pointers []api.Val // to the globals' blocks
	calls    []call    // under way, the innermost last
}

// call is one that is under way.
type call struct {
	rtl.Scene
	function int
	next     int // the instruction's place
}

// start runs a program from its beginning to its end.
func (m *machine) start(args []api.Val) {
	pointers, ok := m.Globals(m.program.made.Globals)
	if !ok {
		return
	}
	m.pointers = pointers
	ok = m.enter(m.program.made.Main, args)
	for ok {
		ok = m.step(&m.calls[len(m.calls)-1])
	}
}

// enter begins a call: its locations are Undef, but for the parameters.
func (m *machine) enter(number int, args []api.Val) bool {
	if len(m.calls) >= rtl.MaxCalls {
		return m.End(api.Stuck)
	}
	f := &m.program.made.Functions[number]
	block, ok := m.Block(f.Frame)
	if !ok {
		return false
	}
	locations := make([]api.Val, f.Locations)
	for n, v := range args {
		locations[param(n)] = v
	}
	m.calls = append(m.calls, call{Scene: rtl.Scene{State: &m.State, Pointers: m.pointers, Registers: locations, Home: block}, function: number})
	return true
}

// param tells where a parameter stands that there is.
func param(n int) int {
	loc, _ := ltl.Param(n)
	return loc
}

// leave ends the innermost call.
func (m *machine) leave(c *call) bool {
	answer := c.Registers[ltl.Answer]
	m.Free(c.Home)
	m.calls = m.calls[:len(m.calls)-1]
	if len(m.calls) == 0 {
		m.Halt(answer)
		return false
	}
	outer := &m.calls[len(m.calls)-1]
	for loc := range ltl.FirstSlot {
		if !ltl.Kept(loc) {
			outer.Registers[loc] = api.Val{}
		}
	}
	outer.Registers[ltl.Answer] = answer
	return true
}

// step executes the innermost call's next instruction.
func (m *machine) step(c *call) bool {
	if !m.Use(1) {
		return false
	}
	i := &m.program.made.Functions[c.function].Code[c.next]
	c.next++
	switch i.Kind {
	case Jump:
		m.jump(c, i)
	case Choice:
		return m.choose(c, i)
	case Call:
		return m.call(c, i.Deed.Sub)
	case Return:
		return m.leave(c)
	case Plain:
		return c.Do(&i.Deed)
	}
	return true
}

func (m *machine) jump(c *call, i *Ins) { c.next = m.program.places[c.function][i.Label] }

func (m *machine) choose(c *call, i *Ins) bool {
	isSo, ok := c.Choose(&i.Deed)
	if ok && isSo == i.IfSo {
		m.jump(c, i)
	}
	return ok
}

func (m *machine) call(c *call, number int) bool {
	m.Show(api.Call, int64(number), 0)
	args := make([]api.Val, m.program.made.Functions[number].Params)
	for n := range args {
		args[n] = c.Registers[param(n)]
	}
	return m.enter(number, args)
}
