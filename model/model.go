// Package model runs graphs for tests, by a second reading of chapters 12 and 16: a call is a call, and a run that is over is left at once.
package model

import (
	"maps"

	"plumbob/api"
	"plumbob/mem"
	"plumbob/rtl"
	"plumbob/trace"
	"plumbob/val"
)

type model struct {
	p      rtl.Prog
	loses  func(register int) bool
	memory *mem.Mem
	world  *trace.World
	fuel   int
	depth  int
	run    api.Run
}

// over is what leaves a run.
type over struct{}

func (m *model) end(kind int) {
	m.run.Kind = kind
	panic(over{})
}

func (m *model) must(ok bool) {
	if !ok {
		m.end(api.Stuck)
	}
}

func (m *model) leak(kind int, a, b int64) {
	m.run.Leaks = append(m.run.Leaks, api.Leak{Kind: kind, A: a, B: b})
}

func (m *model) event(kind int, v int64) {
	m.run.Events = append(m.run.Events, api.Event{Kind: kind, V: v})
}

// Keeping loses no register.
func Keeping(register int) bool { return false }

// Run is what a run of a program that is well formed comes to. It loses some of a caller's registers at each call.
func Run(p rtl.Prog, loses func(register int) bool, args, world []int64, fuel int) api.Run {
	m := &model{p: p, loses: loses, memory: mem.New(), world: trace.New(world), fuel: fuel}
	m.whole(args)
	return m.run
}

func (m *model) whole(args []int64) {
	defer func() {
		if r := recover(); r != nil && r != (over{}) {
			panic(r)
		}
	}()
	for _, size := range m.p.Globals {
		block, _ := m.memory.Alloc(size)
		m.memory.Zero(block)
	}
	var values []api.Val
	for _, n := range args {
		values = append(values, val.Of(n))
	}
	answer := m.call(m.p.Main, values)
	m.must(answer.Kind == api.Int)
	m.run.Exit = answer.N
	m.end(api.Halt)
}

func (m *model) call(number int, args []api.Val) api.Val {
	f := m.p.Funcs[number]
	m.depth++
	m.must(m.depth <= 20000)
	block, e := m.memory.Alloc(f.Frame)
	m.must(e == api.OK)
	has := map[int]api.Val{}
	for n, r := range f.Params {
		has[r] = args[n]
	}
	for at := f.Entry; ; {
		i := f.Code[at]
		if m.run.Steps == m.fuel {
			m.end(api.Fuel)
		}
		m.run.Steps++
		if i.Op == rtl.Return {
			m.memory.Free(block)
			m.depth--
			return has[i.A]
		}
		at = m.one(i, has, block)
	}
}

// one does an instruction, and tells the node behind it. A register that is none is not there, and so Undef.
func (m *model) one(i rtl.Instr, has map[int]api.Val, block int) int {
	a, b := has[i.A], has[i.B]
	if (i.Op == rtl.Bin || i.Op == rtl.Cond) && i.B == -1 {
		b = api.Val{Kind: api.Int, N: i.K}
	}
	var d api.Val
	ok := true
	switch i.Op {
	case rtl.Const:
		d = api.Val{Kind: api.Int, N: i.K}
	case rtl.Copy:
		d = a
	case rtl.Un:
		d, ok = val.Un(i.Sub, a)
	case rtl.Bin, rtl.Cond:
		if (i.Sub == api.Div || i.Sub == api.Mod) && a.Kind == api.Int && b.Kind == api.Int {
			m.leak(api.Divide, a.N, b.N)
		}
		d, ok = val.Bin(i.Sub, a, b)
	case rtl.Load, rtl.Store:
		d = m.access(i, a, b)
	case rtl.Global:
		d = api.Val{Kind: api.Ptr, N: i.K, Block: 1 + i.Sub}
	case rtl.Frame:
		d = api.Val{Kind: api.Ptr, N: i.K, Block: block}
	case rtl.Call:
		d = m.callOf(i, has)
	case rtl.In:
		d = val.Of(m.world.Next())
		m.event(api.In, d.N)
	case rtl.Out:
		m.must(a.Kind == api.Int)
		m.event(api.Out, a.N)
	}
	m.must(ok)
	if i.Op == rtl.Cond {
		m.leak(api.Branch, d.N, 0)
		return []int{i.T, i.S}[d.N]
	}
	if i.Op != rtl.Nop && i.Op != rtl.Store && i.Op != rtl.Out && i.D != -1 {
		has[i.D] = d
	}
	return i.S
}

func (m *model) access(i rtl.Instr, a, b api.Val) api.Val {
	at, ok := val.Bin(api.Add, a, val.Of(i.K))
	m.must(ok && at.Kind == api.Ptr)
	m.leak(api.Addr, int64(at.Block), at.N)
	if i.Op == rtl.Store {
		m.must(m.memory.Store(i.Sub, at, b))
		return api.Val{}
	}
	v, ok := m.memory.Load(i.Sub, at)
	m.must(ok)
	return v
}

func (m *model) callOf(i rtl.Instr, has map[int]api.Val) api.Val {
	m.leak(api.Call, int64(i.Sub), 0)
	var args []api.Val
	for _, r := range i.Args {
		args = append(args, has[r])
	}
	answer := m.call(i.Sub, args)
	maps.DeleteFunc(has, func(r int, _ api.Val) bool { return m.loses(r) })
	return answer
}
