package flow

import (
	"fmt"
	"math/rand"
	"slices"
	"testing"

	"plumbob/api"
	"plumbob/graphs"
	"plumbob/rtl"
	"plumbob/val"
)

// byChance makes functions of every kind.
func byChance(seed int64) []rtl.Func {
	r := rand.New(rand.NewSource(seed))
	switch seed % 8 {
	case 0:
		return graphs.New(r.Intn, int(seed%3)*20).Program().Funcs
	case 1:
		return graphs.Wild(r.Intn, 3).Funcs
	case 2:
		return graphs.Scrambled(r.Intn, graphs.Wild(r.Intn, int(seed%4))).Funcs
	}
	return []rtl.Func{graphs.Reckoner(r.Intn, 2+r.Intn(11), 1+r.Intn(4))}
}

// TestByChance holds what is answered against the second reading, and asks that it follows from the neighbours'.
func TestByChance(t *testing.T) {
	count := map[string]int{}
	for seed := range int64(16000) {
		for _, f := range byChance(seed) {
			live, _ := Live(f)
			if told := fmt.Sprint(live); told != fmt.Sprint(liveModel(f)) || told != fmt.Sprint(followsLive(f, live)) {
				t.Fatalf("P14.3: Live of %s: %s, want %v; it follows %v", dump(f), told, liveModel(f), followsLive(f, live))
			}
			k := answeredKnown(f)
			if !sameKnown(k, knownModel(f)) || !sameKnown(k, followsKnown(f, k)) {
				t.Fatalf("P14.3: Known of %s: %v, want %v; it follows %v", dump(f), k, knownModel(f), followsKnown(f, k))
			}
			order, _ := Order(f)
			if !slices.Equal(order, orderModel(f)) {
				t.Fatalf("P14.1: Order of %s: %v, want %v", dump(f), order, orderModel(f))
			}
			gives(t, f, order)
			dominators, _ := Dominators(f)
			if told := fmt.Sprint(dominators); told != fmt.Sprint(followsDominators(f, dominators)) || len(f.Code) < 14 && told != fmt.Sprint(dominatorsModel(f)) {
				t.Fatalf("P14.3: Dominators of %s: %s, it follows %v", dump(f), told, followsDominators(f, dominators))
			}
			tally(f, k, order, count)
		}
	}
	t.Logf("%v", count)
	for _, what := range []string{"functions", "facts", "lost", "not reached", "not reached by known branches"} {
		if count[what] < 3000 {
			t.Errorf("P14.3: those made by chance have too few %s: %v", what, count)
		}
	}
}

// tally counts what there is to be found.
func tally(f rtl.Func, k knowledge, order []int, count map[string]int) {
	count["functions"]++
	for n := range f.Code {
		isInOrder := slices.Contains(order, n)
		switch {
		case !isInOrder:
			count["not reached"]++
		case k[n] == nil:
			count["not reached by known branches"]++
		}
		for r, fact := range k[n] {
			if fact.Known {
				count["facts"]++
			} else if slices.ContainsFunc(f.Code, func(i rtl.Instr) bool { return i.Op == rtl.Const && i.D == r }) {
				count["lost"]++
			}
		}
	}
}

// TestKnownAlongWays goes along ways as a run would, with anything where nothing is said: what is known is so there.
func TestKnownAlongWays(t *testing.T) {
	facts := 0
	for seed := range int64(4000) {
		for _, f := range byChance(seed) {
			k := answeredKnown(f)
			r := rand.New(rand.NewSource(seed))
			for range 5 {
				facts += wander(t, r, f, k)
			}
		}
	}
	if facts < 20000 {
		t.Errorf("P14.1: only %d facts were met", facts)
	}
}

// wander goes along one way, and tells how many facts it met.
func wander(t *testing.T, r *rand.Rand, f rtl.Func, k knowledge) int {
	t.Helper()
	anything := func() api.Val {
		return []api.Val{{}, val.Of(int64(r.Intn(3))), val.At(1, 8)}[r.Intn(3)]
	}
	registers := make([]api.Val, f.Regs)
	for i := range registers {
		registers[i] = anything()
	}
	met := 0
	at := f.Entry
	for range 40 {
		if k[at] == nil {
			t.Fatalf("P14.1: Known of %s: a way leads to %d", dump(f), at)
		}
		for reg, fact := range k[at] {
			if fact.Known && registers[reg] != val.Of(fact.V) {
				t.Fatalf("P14.1: Known of %s: a way leads to %d with %v in register %d, known is %d", dump(f), at, registers[reg], reg, fact.V)
			}
			if fact.Known {
				met++
			}
		}
		i := f.Code[at]
		v, ok := anything(), true
		second := val.Of(i.K)
		if (i.Op == rtl.Bin || i.Op == rtl.Cond) && i.B != -1 {
			second = registers[i.B]
		}
		switch i.Op {
		case rtl.Const:
			v = val.Of(i.K)
		case rtl.Copy:
			v = registers[i.A]
		case rtl.Un:
			v, ok = val.Un(i.Sub, registers[i.A])
		case rtl.Bin, rtl.Cond:
			v, ok = val.Bin(i.Sub, registers[i.A], second)
		}
		if !ok || i.Op == rtl.Return {
			return met
		}
		for reg := range registers {
			if writes(i, reg) {
				registers[reg] = v
			}
		}
		at = i.S
		if i.Op == rtl.Cond && v.N == 0 {
			at = i.T
		}
	}
	return met
}

// TestSolveByChance holds Solve against the second reading.
func TestSolveByChance(t *testing.T) {
	for seed := range int64(3000) {
		r := rand.New(rand.NewSource(seed))
		most := r.Intn(20)
		start := make([]int, 1+r.Intn(12))
		for i := range start {
			start[i] = r.Intn(most + 1)
		}
		edges := make([][2]int, r.Intn(2*len(start)))
		for i := range edges {
			edges[i] = [2]int{r.Intn(len(start)), r.Intn(len(start))}
		}
		solves(t, fmt.Sprint(edges, start), edges, start, most, solveModel(edges, start))
	}
}
