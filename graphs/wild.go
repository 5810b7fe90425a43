package graphs

import (
	"slices"
	"strings"

	"plumbob/api"
	"plumbob/rtl"
)

// regs is how many registers a wild function has.
const regs = 3

// Wild makes a program whose nodes go on anywhere, over few registers of any kind. So many of ten nodes are Nops, besides those that there are by chance.
func Wild(pick func(int) int, nops int) rtl.Prog {
	p := rtl.Prog{Globals: []int{8, 0, 24}, Main: pick(2)}
	for _, params := range [][]int{{1}, {2, 0}} {
		f := rtl.Func{Name: "w", Params: params, Regs: regs, Frame: 8 * pick(3), Code: make([]rtl.Instr, 3+pick(9))}
		f.Entry = pick(len(f.Code))
		for at := range f.Code {
			op := 1 + pick(14)
			if pick(10) < nops {
				op = rtl.Nop
			}
			f.Code[at] = wild(pick, op, f)
		}
		p.Funcs = append(p.Funcs, f)
	}
	return p
}

func wild(pick func(int) int, op int, f rtl.Func) rtl.Instr {
	i := rtl.Instr{Op: op, A: pick(regs), B: pick(regs+1) - 1, D: pick(regs), K: int64(pick(12) - 2), S: pick(len(f.Code)), T: pick(len(f.Code))}
	switch op {
	case rtl.Un:
		i.Sub = api.Neg + pick(4)
	case rtl.Bin:
		i.Sub = api.Add + pick(16)
	case rtl.Cond:
		i.Sub = api.Eq + pick(6)
	case rtl.Load, rtl.Store:
		i.Sub, i.B = [...]int{1, 4, 8}[pick(3)], pick(regs)
	case rtl.Global:
		i.Sub, i.K = 2*pick(2), int64(pick(9))
	case rtl.Frame:
		i.K = int64(pick(f.Frame + 1))
	case rtl.Call:
		i.Sub, i.D = pick(2), pick(regs+1)-1
		for range i.Sub + 1 {
			i.Args = append(i.Args, pick(regs))
		}
	case rtl.Return:
		i.A = pick(regs+1) - 1
	}
	return i
}

// Scrambled is a program with any number in the fields that nobody asks.
func Scrambled(pick func(int) int, p rtl.Prog) rtl.Prog {
	m := New(pick, 0)
	p.Funcs = slices.Clone(p.Funcs)
	for n := range p.Funcs {
		code := slices.Clone(p.Funcs[n].Code)
		for at := range code {
			m.scramble(&code[at])
		}
		p.Funcs[n].Code = code
	}
	return p
}

func (m *Maker) scramble(i *rtl.Instr) {
	asked := fields(i.Op)
	for _, f := range []struct {
		letter string
		field  *int
	}{{"U", &i.Sub}, {"A", &i.A}, {"B", &i.B}, {"D", &i.D}, {"S", &i.S}, {"T", &i.T}} {
		if !strings.Contains(asked, f.letter) {
			*f.field = int(m.number())
		}
	}
	if !strings.Contains(asked, "K") {
		i.K = m.number()
	}
	if !strings.Contains(asked, "R") {
		i.Args = []int{int(m.number()), -5}
	}
}

// fields tells which ones chapter 12's table names, by their first letters; but U for Sub, and R for Args.
func fields(op int) string {
	switch op {
	case rtl.Nop:
		return "S"
	case rtl.Const, rtl.Frame:
		return "DKS"
	case rtl.Copy:
		return "ADS"
	case rtl.Un:
		return "UADS"
	case rtl.Bin:
		return "UABKDS"
	case rtl.Load:
		return "UAKDS"
	case rtl.Store:
		return "UABKS"
	case rtl.Global:
		return "UDKS"
	case rtl.Call:
		return "URDS"
	case rtl.Cond:
		return "UABKST"
	case rtl.Return:
		return "A"
	case rtl.In:
		return "DS"
	}
	return "AS" // of Out
}

// Reckoner makes a function in which much is known: few registers, and mostly what reckons with small numbers.
func Reckoner(pick func(int) int, nodes, regs int) rtl.Func {
	code := make([]rtl.Instr, nodes)
	for n := range code {
		i := rtl.Instr{Op: rtl.Nop, A: pick(regs), B: pick(regs+1) - 1, D: pick(regs), K: int64(pick(2)), S: pick(nodes), T: pick(nodes)}
		switch pick(12) {
		case 0, 1, 2, 3:
			i.Op = rtl.Const
		case 4:
			i.Op = rtl.Copy
		case 5:
			i.Op, i.Sub = rtl.Un, api.Neg+pick(4)
		case 6, 7:
			i.Op, i.Sub = rtl.Bin, api.Add+pick(16)
		case 8, 9:
			i.Op, i.Sub = rtl.Cond, api.Eq+pick(6)
		case 10:
			i.Op = []int{rtl.In, rtl.Call, rtl.Return}[pick(3)]
		}
		code[n] = i
	}
	return rtl.Func{Name: "f", Regs: regs, Frame: 16, Entry: pick(nodes), Code: code}
}
