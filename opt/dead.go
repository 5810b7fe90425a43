package opt

import (
	"plumbob/rtl"
	"plumbob/walk"
)

// sweeper leaves out what writes a register that is not live behind it. With that one reader less, other registers may be live no more: they wait till they are asked again.
type sweeper struct {
	code             []rtl.Instr
	back             *walk.Search
	readers, writers [][]int // by register
	waiting          []int   // registers
	waits            []bool  // by register: is it one of them
}

// sweep makes Nops of what nobody asks in a function.
func sweep(f rtl.Func) {
	s := &sweeper{code: f.Code, back: walk.New(walk.Backward(f.Code)), waits: make([]bool, f.Regs)}
	s.readers, s.writers = walk.Touches(f)
	for r := range f.Regs {
		s.wait(r)
	}
	for len(s.waiting) > 0 {
		last := len(s.waiting) - 1
		r := s.waiting[last]
		s.waiting = s.waiting[:last]
		s.waits[r] = false
		s.ask(r)
	}
}

func (s *sweeper) wait(r int) {
	if !s.waits[r] {
		s.waits[r] = true
		s.waiting = append(s.waiting, r)
	}
}

// ask leaves out what writes a register where it is not live.
func (s *sweeper) ask(r int) {
	live := s.live(r)
writers:
	for _, n := range s.writers[r] {
		if !doesNothingElse(s.code[n]) {
			continue
		}
		for next := range rtl.Succs(s.code[n]) {
			if live[next] {
				continue writers
			}
		}
		s.leaveOut(n)
	}
}

// doesNothingElse tells whether an instruction does nothing but write a register; what it leaks goes with it.
func doesNothingElse(i rtl.Instr) bool {
	switch i.Op {
	case rtl.Const, rtl.Copy, rtl.Un, rtl.Bin, rtl.Load, rtl.Global, rtl.Frame:
		return true
	}
	return false
}

// live tells at which nodes a register is live. Where one that wrote it is left out it was not live: so all that ever wrote it may stay closed.
func (s *sweeper) live(r int) []bool {
	s.back.Reset()
	s.back.Close(s.writers[r]...)
	var readers []int
	for _, n := range s.readers[r] {
		if s.code[n].Op != rtl.Nop {
			readers = append(readers, n)
		}
	}
	s.back.Open(readers...)
	l := make([]bool, len(s.code))
	for n := range s.back.From(readers...) {
		l[n] = true
	}
	return l
}

func (s *sweeper) leaveOut(n int) {
	for r := range rtl.Uses(s.code[n]) {
		s.wait(r)
	}
	s.code[n] = nop(s.code[n].S)
}
