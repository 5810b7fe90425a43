package sel

import (
	"math/rand"
	"testing"

	"plumbob/api"
	"plumbob/core"
	"plumbob/sample"
	"plumbob/val"
)

// somes are numbers by chance.
func somes(r *rand.Rand, count int) []int64 {
	list := []int64{}
	for range count {
		list = append(list, edges[r.Intn(len(edges))])
	}
	return list
}

// TestMeaningByChance asks P10.2 of programs made by chance, at many args, worlds and fuels.
func TestMeaningByChance(t *testing.T) {
	ends := map[int]int{}
	consts := 0
	for seed := range int64(1500) {
		r := rand.New(rand.NewSource(seed))
		c := trioOf(t, sample.New(r.Intn, int(seed%3*60)).Program())
		c.isWellChosen()
		consts += c.chosen.Consts()
		for range 3 {
			args, world := somes(r, 4), somes(r, r.Intn(6))
			last := c.holds(args, world, 3000)
			ends[last.Kind]++
			for range 6 {
				c.holds(args, world, r.Intn(last.Steps+2))
			}
		}
	}
	t.Logf("ends %v, %d operations with a constant", ends, consts)
	if ends[api.Halt] < 1000 || ends[api.Stuck] < 50 || ends[api.Fuel] < 50 || consts < 10000 {
		t.Errorf("P10.2: the programs made by chance end %v, with %d constants", ends, consts)
	}
}

// TestLeaksByChance asks P10.3 of programs made by chance, each with two lists of args and worlds that are the same in what is public.
func TestLeaksByChance(t *testing.T) {
	asked, unlike := 0, 0
	for seed := range int64(400) {
		r := rand.New(rand.NewSource(seed))
		c := trioOf(t, sample.New(r.Intn, int(seed%2*200)).Program())
		first, second := somes(r, 4), somes(r, 4)
		copy(second, first[:2])
		if c.leakTheSame(first, somes(r, 5), second, somes(r, 5)) {
			asked++
		} else {
			unlike++
		}
	}
	t.Logf("asked of %d, not of %d", asked, unlike)
	if asked < 250 || unlike < 5 {
		t.Errorf("P10.3: it is asked of %d programs made by chance, and not of %d", asked, unlike)
	}
}

// count is how many nodes there are of what can be seen from outside.
type count struct{ branches, accesses, divisions, calls, steps int }

func counted(n *core.Node) count {
	c := count{steps: n.Steps}
	switch n.Kind {
	case core.Both, core.Either, core.And, core.Or, core.Choice, core.Loop:
		c.branches++
	case core.Load, core.Store:
		c.accesses++
	case core.Call:
		c.calls++
	case core.Binary, core.Fixed:
		if n.Op == api.Div || n.Op == api.Mod {
			c.divisions++
		}
	}
	for _, part := range n.Parts {
		d := counted(part)
		c = count{c.branches + d.branches, c.accesses + d.accesses, c.divisions + d.divisions, c.calls + d.calls, c.steps + d.steps}
	}
	return c
}

// isWellChosen asks of all that was chosen that the machine has it, that nothing is left that it has with a constant, and that no branch, access, division or call has come in.
func (c *trio) isWellChosen() {
	c.Helper()
	for i, f := range c.chosen.made.Functions {
		made, plain := counted(f.Body), counted(c.plain.Core().Functions[i].Body)
		if made.divisions > plain.divisions {
			c.Errorf("P11.1: %.3000s: divisions have come in", c.text)
		}
		made.divisions = plain.divisions
		if made != plain {
			c.Errorf("P11.1: %.3000s: %+v, before %+v", c.text, made, plain)
		}
		if fault := faultOf(f.Body); fault != "" {
			c.Errorf("P11.1: %.3000s: %s", c.text, fault)
		}
	}
}

// faultOf tells what is wrong within a node.
func faultOf(n *core.Node) string {
	for _, part := range n.Parts {
		if s := faultOf(part); s != "" {
			return s
		}
	}
	if n.Steps < 0 {
		return "steps below 0"
	}
	switch n.Kind {
	case core.Keep, core.Both, core.Either:
		return "a node that is none here"
	case core.And, core.Or:
		return unlessCompared(n.Parts...)
	case core.Choice, core.Loop:
		return unlessCompared(n.Parts[0])
	case core.Load, core.Store:
		if at := n.Parts[0]; at.Kind == core.Fixed && at.Op == api.Add || int64(int32(n.K)) != n.K {
			return "an offset that is none"
		}
	case core.Unary:
		if n.Parts[0].Kind == core.Number {
			return "an operation on a constant"
		}
	case core.Fixed:
		if !machineHas(n.Op, n.K) {
			return "a constant that does not fit"
		}
	case core.Binary:
		return leftOver(n.Op, n.Parts[0], n.Parts[1])
	}
	return ""
}

// unlessCompared tells what is wrong with what branches ask.
func unlessCompared(asked ...*core.Node) string {
	for _, n := range asked {
		isMade := n.Kind == core.And || n.Kind == core.Or
		isCompared := (n.Kind == core.Binary || n.Kind == core.Fixed) && n.Op >= api.Eq && n.Op <= api.Ge
		if !isMade && !isCompared {
			return "a branch without a comparison"
		}
	}
	return ""
}

// leftOver tells what might have been chosen better.
func leftOver(op int, x, y *core.Node) string {
	if y.Kind == core.Number && machineHas(op, y.K) {
		return "a constant that fits on the right"
	}
	isEven := op == api.Add || op == api.Mul || op == api.And || op == api.Or || op == api.Xor || op >= api.Eq
	if x.Kind == core.Number && isEven && machineHas(op, x.K) {
		return "a constant that fits on the left"
	}
	if x.Kind == core.Number && y.Kind == core.Number {
		if _, ok := val.Bin(op, val.Of(x.K), val.Of(y.K)); ok {
			return "two constants"
		}
	}
	return ""
}

// machineHas tells whether chapter 20 has an operation with a constant.
func machineHas(op int, k int64) bool {
	switch op {
	case api.Add, api.Sub, api.Mul, api.And, api.Or, api.Xor, api.Eq, api.Ne, api.Lt, api.Le, api.Gt, api.Ge:
		return int64(int32(k)) == k
	case api.Shl, api.Shr:
		return k >= 0 && k < 64
	}
	return false
}
