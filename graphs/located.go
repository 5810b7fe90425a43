package graphs

import (
	"slices"
	"strings"

	"plumbob/rtl"
)

// machine is how many locations there are at least, and answer is where a call's stands.
const (
	machine = 16
	answer  = 0
)

// order tells where so many parameters and arguments stand: six at most.
func order(count int) []int { return []int{7, 6, 2, 1, 8, 9}[:count] }

// Renamed is a program over locations (chapter 16): its registers are the locations that at tells. What it gives to a call, or answers, is what stands there by chance.
func Renamed(p rtl.Prog, at func(register int) int) rtl.Prog {
	return each(p, func(f rtl.Func) rtl.Func {
		f = renamed(f, at)
		f.Params = order(len(f.Params))
		for n := range f.Code {
			switch i := &f.Code[n]; i.Op {
			case rtl.Call:
				i.Args, i.D = order(len(i.Args)), answer
			case rtl.Return:
				i.A = answer
			}
		}
		return f
	})
}

// Located is one, too, in which parameters, arguments and answers are moved to where they must stand, and from there. It does what the program does, if at tells unlike locations, all kept over calls.
func Located(p rtl.Prog, at func(register int) int) rtl.Prog {
	return each(p, func(f rtl.Func) rtl.Func {
		m := &mover{function: renamed(f, at), unset: max(machine, most(f, at)+1)}
		m.function.Regs = m.unset + 1
		for n := range m.function.Code {
			m.move(n)
		}
		m.enter()
		return m.function
	})
}

// each is a program with something done to each function.
func each(p rtl.Prog, change func(rtl.Func) rtl.Func) rtl.Prog {
	p.Globals, p.Funcs = slices.Clone(p.Globals), slices.Clone(p.Funcs)
	for n, f := range p.Funcs {
		p.Funcs[n] = change(f)
	}
	return p
}

// most tells the greatest location of a function's registers.
func most(f rtl.Func, at func(register int) int) int {
	last := 0
	for r := range f.Regs {
		last = max(last, at(r))
	}
	return last
}

// renamed is a function in new memory with a location for each register that it names.
func renamed(f rtl.Func, at func(register int) int) rtl.Func {
	last := most(f, at)
	f = rtl.Clone(f)
	f.Regs = max(machine, last+1)
	rename(at, f.Params)
	for n := range f.Code {
		i := &f.Code[n]
		asked := fields(i.Op)
		for _, field := range []struct {
			letter   string
			register *int
		}{{"A", &i.A}, {"B", &i.B}, {"D", &i.D}} {
			if strings.Contains(asked, field.letter) && *field.register != none {
				*field.register = at(*field.register)
			}
		}
		if strings.Contains(asked, "R") {
			rename(at, i.Args)
		}
	}
	return f
}

func rename(at func(register int) int, l []int) {
	for n := range l {
		l[n] = at(l[n])
	}
}

// mover moves what must stand elsewhere.
type mover struct {
	function rtl.Func
	unset    int // a slot that nothing writes
}

// move lays moves around a node that calls or returns.
func (m *mover) move(n int) {
	i := m.function.Code[n]
	switch i.Op {
	case rtl.Call:
		to := order(len(i.Args))
		row := append(moves(i.Args, to), rtl.Instr{Op: rtl.Call, Sub: i.Sub, Args: to, D: answer})
		if i.D != none {
			row = append(row, rtl.Instr{Op: rtl.Copy, A: answer, D: i.D})
		}
		m.lay(n, i.S, row)
	case rtl.Return:
		from := i.A
		if from == none {
			from = m.unset
		}
		m.lay(n, n, append(moves([]int{from}, []int{answer}), rtl.Instr{Op: rtl.Return, A: answer}))
	}
}

// enter lays moves of the parameters ahead of all.
func (m *mover) enter() {
	f := &m.function
	from := order(len(f.Params))
	row := append(moves(from, f.Params), rtl.Instr{Op: rtl.Nop})
	f.Code = append(f.Code, rtl.Instr{})
	m.lay(len(f.Code)-1, f.Entry, row)
	f.Params, f.Entry = from, len(f.Code)-len(row)
}

// moves copies from locations to others, one by one.
func moves(from, to []int) []rtl.Instr {
	var l []rtl.Instr
	for n := range from {
		l = append(l, rtl.Instr{Op: rtl.Copy, A: from[n], D: to[n]})
	}
	return l
}

// lay puts instructions at a node, and behind all nodes, that go on at one another, and at last at some node.
func (m *mover) lay(n, behind int, row []rtl.Instr) {
	code := &m.function.Code
	for k, i := range row {
		i.S = behind
		if k < len(row)-1 {
			i.S = len(*code)
			*code = append(*code, rtl.Instr{})
		}
		(*code)[n] = i
		n = i.S
	}
}
