// Package state: what a run under way has at each level: its memory, its world, its fuel, and what it has done and shown so far.
package state

import (
	"plumbob/api"
	"plumbob/mem"
	"plumbob/trace"
	"plumbob/val"
)

// MaxFuel is the most fuel that a run may be given.
const MaxFuel = 10000000

// State is a run under way. When one of its methods answers false as its last answer, the run is over, and its Kind says why.
type State struct {
	Run    api.Run
	memory *mem.Mem
	world  *trace.World
	fuel   int
}

// New begins a run.
func New(world []int64, fuel int) State {
	return State{memory: mem.New(), world: trace.New(world), fuel: fuel}
}

// Values makes numbers values.
func Values(numbers []int64) []api.Val {
	var l []api.Val
	for _, n := range numbers {
		l = append(l, val.Of(n))
	}
	return l
}

// End ends the run.
func (s *State) End(kind int) bool {
	s.Run.Kind = kind
	return false
}

// Halt ends it with what main answers.
func (s *State) Halt(v api.Val) {
	if v.Kind != api.Int {
		s.End(api.Stuck)
		return
	}
	s.Run.Kind, s.Run.Exit = api.Halt, v.N
}

// known hands on a value, if there is one; where there is none, the run has no meaning.
func (s *State) known(v api.Val, isThere bool) (api.Val, bool) {
	if !isThere {
		return api.Val{}, s.End(api.Stuck)
	}
	return v, true
}

// Use uses so much of the fuel; all of it, where there is less.
func (s *State) Use(steps int) bool {
	if steps > s.fuel-s.Run.Steps {
		s.Run.Steps = s.fuel
		return s.End(api.Fuel)
	}
	s.Run.Steps += steps
	return true
}

// Show leaks.
func (s *State) Show(kind int, a, b int64) {
	s.Run.Leaks = append(s.Run.Leaks, api.Leak{Kind: kind, A: a, B: b})
}

func (s *State) tell(kind int, v int64) {
	s.Run.Events = append(s.Run.Events, api.Event{Kind: kind, V: v})
}

// Input tells the number that comes in.
func (s *State) Input() api.Val {
	n := s.world.Next()
	s.tell(api.In, n)
	return val.Of(n)
}

// Output lets a value go out.
func (s *State) Output(v api.Val) bool {
	if v.Kind != api.Int {
		return s.End(api.Stuck)
	}
	s.tell(api.Out, v.N)
	return true
}

// Unary reckons with one value.
func (s *State) Unary(op int, v api.Val) (api.Val, bool) { return s.known(val.Un(op, v)) }

// Binary reckons with two; the operands of a division are shown.
func (s *State) Binary(op int, x, y api.Val) (api.Val, bool) {
	if (op == api.Div || op == api.Mod) && x.Kind == api.Int && y.Kind == api.Int {
		s.Show(api.Divide, x.N, y.N)
	}
	return s.known(val.Bin(op, x, y))
}

// Branch tells whether a value is true, and shows that.
func (s *State) Branch(v api.Val) (isTrue, ok bool) {
	isTrue, ok = val.True(v)
	if !ok {
		return false, s.End(api.Stuck)
	}
	s.Show(api.Branch, Bit(isTrue).N, 0)
	return isTrue, true
}

// Bit is the Int of a truth.
func Bit(isTrue bool) api.Val {
	if isTrue {
		return val.Of(1)
	}
	return val.Of(0)
}
