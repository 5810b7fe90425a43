package opt

import (
	"testing"

	"plumbob/api"
	"plumbob/rtl"
)

const greatest = 5000

// great is a row of as many nodes and registers as there may be.
func great(at func(n int) rtl.Instr, answer int) rtl.Func {
	code := make([]rtl.Instr, greatest)
	for n := range code {
		code[n] = at(n)
		code[n].S = n + 1
	}
	code[greatest-1] = leave(answer)
	return rtl.Func{Name: "f", Params: []int{0}, Regs: greatest, Frame: 8, Code: code}
}

// TestGreatFunctions has as much to do as there may be.
func TestGreatFunctions(t *testing.T) {
	t.Parallel()
	chain := func(n int) rtl.Instr { return fixed(api.Add, n, 1, n+1, 0) }
	for _, c := range []struct {
		name   string
		f      rtl.Func
		left   int    // nodes, by All
		counts [3]int // nodes that Fold, Cse, Dead change
	}{
		{"a chain that nobody asks", great(chain, -1), 1, [3]int{0, 0, greatest - 1}},
		{"a chain that is asked", great(chain, greatest-1), greatest, [3]int{}},
		{"a chain that is known", great(func(n int) rtl.Instr {
			if n == 0 {
				return constant(1, 5, 0)
			}
			return chain(n)
		}, greatest-1), 2, [3]int{greatest - 2, 0, 0}},
		{"one pointer again and again", great(func(n int) rtl.Instr { return frame(8, greatest-1-n, 0) }, 1), 3, [3]int{0, greatest - 2, greatest - 2}},
		{"many, twice each", great(func(n int) rtl.Instr { return fixed(api.Add, 0, int64(n%2500), n+1, 0) }, greatest-1), 3, [3]int{0, 2499, greatest - 2}},
	} {
		for n, p := range passes() {
			got, e := p.call(c.f)
			if e != api.OK || changed(c.f, got) != c.counts[n] {
				t.Errorf("P15.1: %s of %s: %d nodes are changed, want %d (%d)", p.name, c.name, changed(c.f, got), c.counts[n], e)
			}
		}
		q, e := Rounds(alone(c.f), 10)
		if e != api.OK || len(q.Funcs[0].Code) != c.left {
			t.Errorf("P15.1: Rounds of %s: %d nodes, want %d (%d)", c.name, len(q.Funcs[0].Code), c.left, e)
		}
	}
}

// TestGreatLoops has as many branches as there may be, each to anywhere, among what can be left out.
func TestGreatLoops(t *testing.T) {
	t.Parallel()
	f := great(func(n int) rtl.Instr {
		switch n % 4 {
		case 0:
			return test(api.Eq, 0, 3, 0, n*7919%greatest)
		case 1:
			return fixed(api.Add, 0, int64(n%1000), n, 0)
		}
		return bin(api.Add, (n+2)%greatest, (n+4)%greatest, n, 0)
	}, -1)
	q := allOf(t, alone(f))
	if !isReached(q) || len(q.Funcs[0].Code) > 2*greatest/3 {
		t.Errorf("P15.1: All of great loops: %d nodes", len(q.Funcs[0].Code))
	}
	for _, p := range passes() {
		p.answer(t, f)
	}
}
