package asm_test

import (
	"plumbob/api"
	"plumbob/asm"
	"plumbob/mem"
	"plumbob/trace"
	"plumbob/val"
)

// second runs code by a second reading of chapter 20: a call is a call, and a run that is over is left at once.
type second struct {
	p           asm.Prog
	memory      *mem.Mem
	world       *trace.World
	fuel, limit int
	isFree      bool // do Labels use no fuel?
	stack, peak int
	has         map[int]api.Val
	flags       []api.Val
	run         api.Run
}

// over is what leaves a run.
type over struct{}

func (s *second) end(kind int) {
	s.run.Kind = kind
	panic(over{})
}

func (s *second) must(ok bool) {
	if !ok {
		s.end(api.Stuck)
	}
}

func (s *second) sure(v api.Val, ok bool) api.Val {
	s.must(ok)
	return v
}

func (s *second) leak(kind int, a, b int64) {
	s.run.Leaks = append(s.run.Leaks, api.Leak{Kind: kind, A: a, B: b})
}

func (s *second) more(bytes int) {
	if s.stack+bytes > s.limit {
		s.end(api.Overflow)
	}
	s.stack += bytes
	s.peak = max(s.peak, s.stack)
}

// reading is a run that is over.
func reading(p asm.Prog, args, world []int64, fuel, limit int) *second {
	s := &second{p: p, fuel: fuel, limit: limit}
	s.begin(args, world)
	return s
}

// begin runs it to its end.
func (s *second) begin(args, world []int64) {
	s.memory, s.world, s.has = mem.New(), trace.New(world), map[int]api.Val{}
	defer func() {
		if r := recover(); r != nil && r != (over{}) {
			panic(r)
		}
	}()
	for _, size := range s.p.Globals {
		block, _ := s.memory.Alloc(size)
		s.memory.Zero(block)
	}
	for n, r := range []int{7, 6, 2, 1, 8, 9}[:s.p.Params] {
		s.has[r] = val.Of(args[n])
	}
	s.call(s.p.Main)
	s.must(s.has[0].Kind == api.Int)
	s.run.Exit = s.has[0].N
	s.run.Kind = api.Halt
}

// call executes a function to its Ret.
func (s *second) call(number int) {
	s.more(8)
	s.flags = nil
	code := s.p.Funcs[number].Code
	block, size, above := 0, int64(0), api.Val{}
	for at := 0; ; at++ {
		s.must(at < len(code))
		if s.isFree && code[at].Op == asm.Label {
			continue
		}
		if s.run.Steps == s.fuel {
			s.end(api.Fuel)
		}
		s.run.Steps++
		switch i := code[at]; i.Op {
		case asm.Ret:
			s.must(block == 0)
			s.stack -= 8
			s.flags = nil
			return
		case asm.Call:
			s.leak(api.Call, int64(i.Sub), 0)
			s.call(i.Sub)
		case asm.Enter:
			s.must(block == 0)
			s.more(int(i.K))
			made, e := s.memory.Alloc(int(i.K))
			s.must(e == api.OK)
			block, size, above = made, i.K, s.has[4]
			s.has[4] = val.At(block, 0)
		case asm.Leave:
			s.must(block != 0 && size == i.K)
			s.memory.Free(block)
			s.stack -= int(size)
			s.has[4], block = above, 0
		case asm.Jmp:
			at = goal(code, i.L) - 1
		case asm.Jcc:
			v := s.truth(i.Cc)
			s.leak(api.Branch, v.N, 0)
			if v.N == 1 {
				at = goal(code, i.L) - 1
			}
		default:
			s.one(i)
		}
	}
}

// goal is where a Label is: it is executed, too.
func goal(code []asm.Ins, l int) int {
	for at, i := range code {
		if i.Op == asm.Label && i.L == l {
			return at
		}
	}
	panic("no such label")
}

// truth is what a condition is of the flags.
func (s *second) truth(cc int) api.Val {
	s.must(s.flags != nil)
	return s.sure(val.Bin(cc, s.flags[0], s.flags[1]))
}

// address is M + K; where it is a pointer it leaks.
func (s *second) address(i asm.Ins) api.Val {
	at := s.sure(val.Bin(api.Add, s.has[i.M], val.Of(i.K)))
	if at.Kind == api.Ptr {
		s.leak(api.Addr, int64(at.Block), at.N)
	}
	return at
}

// one does an instruction that goes straight on.
func (s *second) one(i asm.Ins) {
	r, m, k := s.has[i.R], s.has[i.M], val.Of(i.K)
	switch i.Op {
	case asm.MovR:
		s.has[i.R] = m
	case asm.MovK:
		s.has[i.R] = k
	case asm.Load:
		s.has[i.R] = s.sure(s.memory.Load(i.Sub, s.address(i)))
	case asm.Store:
		s.must(s.memory.Store(i.Sub, s.address(i), r))
	case asm.Lea:
		s.has[i.R] = s.sure(val.Bin(api.Add, m, k))
	case asm.LeaG:
		s.has[i.R] = val.At(i.Sub+1, i.K)
	case asm.Alu:
		s.has[i.R] = s.sure(val.Bin(i.Sub, r, m))
	case asm.AluK, asm.Shift:
		s.has[i.R] = s.sure(val.Bin(i.Sub, r, k))
	case asm.Un:
		s.has[i.R] = s.sure(val.Un(i.Sub, r))
	case asm.Ext:
		s.has[i.R] = s.sure(val.Un(i.Sub, m))
	case asm.ShiftC:
		s.must(s.has[1].Kind == api.Int)
		s.has[i.R] = s.sure(val.Bin(i.Sub, r, val.Of((s.has[1].N%64+64)%64)))
	case asm.Cmp:
		s.flags = []api.Val{r, m}
	case asm.CmpK:
		s.flags = []api.Val{r, k}
	case asm.Set:
		s.has[i.R] = s.truth(i.Cc)
	case asm.Cqo, asm.Idiv:
		s.whole(i.Op, m)
	case asm.InI:
		s.has[0] = val.Of(s.world.Next())
		s.run.Events = append(s.run.Events, api.Event{Kind: api.In, V: s.has[0].N})
	case asm.OutI:
		s.must(s.has[0].Kind == api.Int)
		s.run.Events = append(s.run.Events, api.Event{Kind: api.Out, V: s.has[0].N})
	}
}

// whole does what takes rax and rdx.
func (s *second) whole(op int, m api.Val) {
	rax := s.has[0]
	if op == asm.Cqo {
		s.must(rax.Kind == api.Int)
		s.has[2] = val.Of(rax.N >> 63)
		return
	}
	s.must(rax.Kind == api.Int && m.Kind == api.Int)
	s.leak(api.Divide, rax.N, m.N)
	s.must(s.has[2] == val.Of(rax.N>>63))
	s.has[0], s.has[2] = s.sure(val.Bin(api.Div, rax, m)), s.sure(val.Bin(api.Mod, rax, m))
}
