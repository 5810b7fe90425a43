package rtl

import (
	"plumbob/api"
	"plumbob/state"
	"plumbob/val"
)

// Scene is where a call's instructions are done: of each level that has those of graphs, too. When one of its methods answers false as its last answer, the run is over, and its Kind says why.
type Scene struct {
	*state.State
	Pointers  []api.Val // to the globals' blocks
	Registers []api.Val // the call's
	Home      int       // the block of its frame
}

// Do does an instruction that goes on at S alone, and is no Call.
func (s *Scene) Do(i *Instr) bool {
	switch i.Op {
	case Nop:
		return true
	case Store:
		return s.store(i)
	case Out:
		return s.Output(s.first(i))
	}
	v, ok := s.reckon(i)
	if ok {
		s.Registers[i.D] = v
	}
	return ok
}

// Choose tells whether what a Cond asks is so.
func (s *Scene) Choose(i *Instr) (isSo, ok bool) {
	v, ok := s.Binary(i.Sub, s.first(i), s.second(i))
	if !ok {
		return false, false
	}
	return s.Branch(v)
}

// reckon tells the value that goes to D.
func (s *Scene) reckon(i *Instr) (api.Val, bool) {
	switch i.Op {
	case Copy:
		return s.first(i), true
	case Un:
		return s.Unary(i.Sub, s.first(i))
	case Bin:
		return s.Binary(i.Sub, s.first(i), s.second(i))
	case Load:
		at, ok := s.address(i)
		if !ok {
			return api.Val{}, false
		}
		return s.Load(i.Sub, at)
	case Global:
		return val.At(s.Pointers[i.Sub].Block, i.K), true
	case Frame:
		return val.At(s.Home, i.K), true
	case In:
		return s.Input(), true
	}
	return val.Of(i.K), true
}

// first tells the value of A: Undef, if there is no register.
func (s *Scene) first(i *Instr) api.Val {
	if i.A == none {
		return api.Val{}
	}
	return s.Registers[i.A]
}

// second tells the value of B: the constant, if there is no register.
func (s *Scene) second(i *Instr) api.Val {
	if i.B == none {
		return val.Of(i.K)
	}
	return s.Registers[i.B]
}

// address tells where an access is.
func (s *Scene) address(i *Instr) (api.Val, bool) {
	return s.Binary(api.Add, s.first(i), val.Of(i.K))
}

func (s *Scene) store(i *Instr) bool {
	at, ok := s.address(i)
	return ok && s.Store(i.Sub, at, s.second(i))
}
