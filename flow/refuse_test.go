package flow

import (
	"math/rand"
	"slices"
	"testing"

	"plumbob/api"
	"plumbob/graphs"
	"plumbob/rtl"
)

// byItself tells, by Good, whether a function is well formed, when all that it calls and all globals that it names are there.
func byItself(f rtl.Func) bool {
	f.Code = slices.Clone(f.Code)
	p := rtl.Prog{Globals: []int{0}, Funcs: []rtl.Func{f}}
	for n := range f.Code {
		i := &f.Code[n]
		switch i.Op {
		case rtl.Global:
			i.Sub, i.K = 0, 0
		case rtl.Call:
			called := rtl.Func{Regs: len(i.Args), Code: []rtl.Instr{leave(-1)}}
			for r := range i.Args {
				called.Params = append(called.Params, r)
			}
			i.Sub = len(p.Funcs)
			p.Funcs = append(p.Funcs, called)
		}
	}
	return rtl.Good(p)
}

// takes asks that all calls take a function, or that all refuse it.
func takes(t *testing.T, what string, f rtl.Func, isRight bool) {
	t.Helper()
	before := dump(f)
	live, a := Live(f)
	facts, reached, b := Known(f)
	dominators, c := Dominators(f)
	order, d := Order(f)
	each := 0
	for range Each(f) {
		each++
	}
	want, nodes := api.EARG, 0
	if isRight {
		want, nodes = api.OK, len(f.Code)
	}
	if a != want || b != want || c != want || d != want {
		t.Errorf("P14.1: %s, %.500s: Live %d, Known %d, Dominators %d, Order %d, want %d", what, before, a, b, c, d, want)
	}
	if len(live) != nodes || len(facts) != nodes || len(reached) != nodes || len(dominators) != nodes || len(order) != each || (each > 0) != isRight {
		t.Errorf("P14.1: %s, %.500s: lists of %d, %d, %d, %d, %d, and %d nodes by Each", what, before, len(live), len(facts), len(reached), len(dominators), len(order), each)
	}
	if dump(f) != before {
		t.Errorf("R4: %s, %.500s: it is changed: %.500s", what, before, dump(f))
	}
}

func TestRefusals(t *testing.T) {
	for _, c := range graphs.Cases() {
		if byItself(c.Func) != c.IsRight {
			t.Errorf("P12.1: Good of a function with %s: %t", c.Name, !c.IsRight)
		}
		takes(t, c.Name, c.Func, c.IsRight)
	}
}

// TestRefusalsByChance has functions with some fields of any kind.
func TestRefusalsByChance(t *testing.T) {
	count := map[bool]int{}
	for seed := range int64(10000) {
		f := graphs.Broken(rand.New(rand.NewSource(seed)).Intn)
		isRight := byItself(f)
		takes(t, "any number", f, isRight)
		count[isRight]++
	}
	if count[true] < 2000 || count[false] < 2000 {
		t.Errorf("P14.1: right, wrong: %v", count)
	}
}
