package opt

import (
	"math/rand"
	"testing"

	"plumbob/api"
	"plumbob/graphs"
	"plumbob/rtl"
)

// repeater makes functions that reckon the same again and again: few operations on few registers.
func repeater(r *rand.Rand, nodes, regs int) rtl.Func {
	code := make([]rtl.Instr, nodes)
	for n := range code {
		i := rtl.Instr{A: r.Intn(2), B: r.Intn(3) - 1, D: r.Intn(regs), K: int64(r.Intn(2)), S: r.Intn(nodes), T: r.Intn(nodes)}
		if r.Intn(3) > 0 {
			i.S = (n + 1) % nodes
		}
		switch r.Intn(14) {
		case 0, 1:
			i.Op, i.Sub = rtl.Un, api.Neg
		case 2, 3, 4:
			i.Op, i.Sub = rtl.Bin, api.Add+r.Intn(5)/4*3
		case 5, 6:
			i.Op, i.Sub = rtl.Load, 8
		case 7:
			i.Op, i.Sub = rtl.Global, r.Intn(2)
		case 8:
			i.Op = rtl.Frame
		case 9, 10:
			i.Op, i.Sub = rtl.Cond, api.Eq
		case 11:
			i.Op, i.Sub, i.B = rtl.Store, 8, 0
		default:
			i.Op = []int{rtl.Call, rtl.In, rtl.Nop, rtl.Copy, rtl.Const, rtl.Return}[r.Intn(6)]
		}
		code[n] = i
	}
	return rtl.Func{Name: "r", Regs: regs, Frame: 16, Entry: r.Intn(nodes), Code: code}
}

// byChance makes functions of every kind.
func byChance(seed int64) []rtl.Func {
	r := rand.New(rand.NewSource(seed))
	switch seed % 8 {
	case 0:
		return graphs.New(r.Intn, int(seed%3)*20).Again(2).Program().Funcs
	case 1:
		return graphs.Wild(r.Intn, 2).Funcs
	case 2:
		return graphs.Scrambled(r.Intn, graphs.New(r.Intn, 30).Again(3).Program()).Funcs
	case 3, 4:
		return []rtl.Func{graphs.Reckoner(r.Intn, 2+r.Intn(11), 1+r.Intn(4))}
	}
	return []rtl.Func{repeater(r, 2+r.Intn(14), 2+r.Intn(5))}
}

// changed tells how many nodes of a function are not what they were.
func changed(f, g rtl.Func) int {
	count := 0
	for n := range f.Code {
		if told(function(f.Code[n])) != told(function(g.Code[n])) {
			count++
		}
	}
	return count
}

// TestByChance holds what is answered against the second reading.
func TestByChance(t *testing.T) {
	t.Parallel()
	models := map[string]func(rtl.Func) rtl.Func{"Fold": foldModel, "Cse": cseModel, "Dead": deadModel}
	count := map[string]int{}
	for seed := range int64(16000) {
		for _, f := range byChance(seed) {
			for _, p := range passes() {
				got, want := p.answer(t, f), models[p.name](f)
				if dump(got) != dump(want) {
					t.Fatalf("P15.1: %s of %s: %s\nwant %s", p.name, told(f), told(got), told(want))
				}
				count[p.name] += changed(f, got)
			}
		}
	}
	t.Logf("changed %v", count)
	if count["Fold"] < 5000 || count["Cse"] < 10000 || count["Dead"] < 10000 {
		t.Errorf("P15.1: those made by chance are changed %v", count)
	}
}
