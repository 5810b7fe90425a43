package opt

import (
	"math/rand"
	"slices"
	"testing"

	"plumbob/api"
	"plumbob/flow"
	"plumbob/graphs"
	"plumbob/rtl"
	"plumbob/rtlgen"
	"plumbob/trace"
)

// allOf is what All answers; it asks that it is the same once more, and that nothing is changed.
func allOf(t *testing.T, p rtl.Prog) rtl.Prog {
	t.Helper()
	before := rtl.Text(p)
	q, e := All(p)
	if e != api.OK || !rtl.Good(q) {
		t.Fatalf("P15.1: All of %s: %d, %s", before, e, rtl.Text(q))
	}
	if again, _ := All(p); rtl.Text(again) != rtl.Text(q) {
		t.Fatalf("R5: All of %s: %s, and once more %s", before, rtl.Text(q), rtl.Text(again))
	}
	if rtl.Text(p) != before {
		t.Fatalf("R4: All of %s: it is changed: %s", before, rtl.Text(p))
	}
	return q
}

// TestAll has the four together.
func TestAll(t *testing.T) {
	for _, c := range []struct {
		name       string
		code, want []rtl.Instr
	}{
		{"the example", []rtl.Instr{constant(0, 2, 1), fixed(api.Mul, 0, 3, 1, 2), leave(1)}, []rtl.Instr{constant(1, 6, 1), leave(1)}},
		{"nothing to do", []rtl.Instr{input(0, 1), fixed(api.Mul, 0, 3, 1, 2), leave(1)}, []rtl.Instr{input(0, 1), fixed(api.Mul, 0, 3, 1, 2), leave(1)}},
		{"Nops and what can't be reached", []rtl.Instr{nothing(2), leave(3), nothing(4), output(1, 1), leave(0)}, []rtl.Instr{leave(0)}},
		{"a branch of known ones", []rtl.Instr{constant(0, 1, 1), test(api.Eq, 0, 1, 2, 3), leave(6), leave(7)}, []rtl.Instr{leave(6)}},
		{"a loop that is never left", []rtl.Instr{constant(0, 1, 1), test(api.Eq, 0, 1, 2, 3), nothing(1), leave(7)}, []rtl.Instr{nothing(0)}},
		// Cse finds alike what Fold has made so, and Dead leaves out what Cse asks no more.
		{"Fold ahead of Cse", row(constant(0, 3, 0), bin(api.Mul, 7, 0, 1, 0), fixed(api.Mul, 7, 3, 2, 0), output(1, 0), leave(2)), row(fixed(api.Mul, 7, 3, 1, 0), move(1, 2, 0), output(1, 0), leave(2))},
		{"Cse ahead of Dead", row(fixed(api.Add, 7, 1, 0, 0), load(8, 0, 0, 1, 0), fixed(api.Add, 7, 1, 2, 0), load(8, 0, 0, 3, 0), leave(3)), row(fixed(api.Add, 7, 1, 0, 0), load(8, 0, 0, 1, 0), move(1, 3, 0), leave(3))},
		// Behind Dead no other pass comes: what it makes alike stays.
		{"Fold ahead of Dead", row(constant(0, 3, 0), move(0, 1, 0), bin(api.Add, 7, 1, 2, 0), leave(2)), row(fixed(api.Add, 7, 3, 2, 0), leave(2))},
		{"what Cse leaves unread", row(fixed(api.Add, 7, 1, 0, 0), fixed(api.Add, 7, 1, 1, 0), un(api.Neg, 6, 2, 0), leave(1)), row(fixed(api.Add, 7, 1, 0, 0), move(0, 1, 0), leave(1))},
	} {
		got := allOf(t, alone(function(c.code...)))
		if want := alone(function(c.want...)); rtl.Text(got) != rtl.Text(want) {
			t.Errorf("P15.1: All of %s: %swant %s", c.name, rtl.Text(got), rtl.Text(want))
		}
	}
}

// TestAllFunctions: each function is treated, and what stands beside them stays.
func TestAllFunctions(t *testing.T) {
	made := func(name string, k int64) rtl.Func {
		return rtl.Func{Name: name, Params: []int{1, 0}, Regs: 3, Frame: 8, Entry: 1, Code: []rtl.Instr{leave(2), constant(1, k, 2), nothing(3), fixed(api.Add, 1, 1, 2, 0)}}
	}
	want := func(name string, k int64) rtl.Func {
		return rtl.Func{Name: name, Params: []int{1, 0}, Regs: 3, Frame: 8, Code: []rtl.Instr{constant(2, k+1, 1), leave(2)}}
	}
	p := rtl.Prog{Globals: []int{5, 0, 65536}, Main: 1}
	q := rtl.Prog{Globals: []int{5, 0, 65536}, Main: 1}
	for n := range int64(100) {
		name := string(rune('a' + n))
		p.Funcs, q.Funcs = append(p.Funcs, made(name, n)), append(q.Funcs, want(name, n))
	}
	if got := allOf(t, p); rtl.Text(got) != rtl.Text(q) {
		t.Errorf("P15.1: All of many: %s", rtl.Text(got))
	}
	empty := rtl.Prog{Funcs: []rtl.Func{{Code: []rtl.Instr{leave(-1)}}}}
	if got := allOf(t, empty); rtl.Text(got) != rtl.Text(empty) {
		t.Errorf("P15.1: All of one that does nothing: %s", rtl.Text(got))
	}
}

// composed is Fold, Cse, Dead, Compact, one behind the other.
func composed(p rtl.Prog) rtl.Prog {
	p.Funcs = slices.Clone(p.Funcs)
	for n, f := range p.Funcs {
		for _, pass := range append(passes(), pass{"Compact", rtlgen.Compact}) {
			f, _ = pass.call(f)
		}
		p.Funcs[n] = f
	}
	return p
}

// isReached tells whether all nodes are reached, by branches of known ones.
func isReached(p rtl.Prog) bool {
	for _, f := range p.Funcs {
		if _, reached, e := flow.Known(f); e != api.OK || slices.Contains(reached, false) {
			return false
		}
	}
	return true
}

// manyPrograms makes programs of every kind.
func manyPrograms(seed int64) rtl.Prog {
	r := rand.New(rand.NewSource(seed))
	switch seed % 4 {
	case 0:
		return graphs.New(r.Intn, 30).Again(2).Program()
	case 1:
		return graphs.Scrambled(r.Intn, graphs.Wild(r.Intn, 2))
	}
	f := graphs.Reckoner(r.Intn, 2+r.Intn(20), 1+r.Intn(4))
	if seed%4 == 3 {
		f = repeater(r, 2+r.Intn(20), 2+r.Intn(5))
	}
	for n := range f.Code {
		f.Code[n].Args = nil
	}
	return alone(f)
}

// rounds asks that Rounds is All so often; and tells how often All changes something.
func rounds(t *testing.T, p rtl.Prog) int {
	t.Helper()
	want, last := p, 0
	for _, n := range []int{0, 1, 2, 3, 10} {
		got, e := Rounds(p, n)
		if e != api.OK || rtl.Text(got) != rtl.Text(want) {
			t.Fatalf("P15.1: Rounds(%d) of %s: %d, %swant %s", n, rtl.Text(p), e, rtl.Text(got), rtl.Text(want))
		}
		next := allOf(t, want)
		if rtl.Text(next) != rtl.Text(want) {
			last = n + 1
		}
		want = next
	}
	return last
}

// TestAllByChance: All is the four behind one another, and Rounds is All so often; no node is left that is not reached; Dead has nothing more to do.
func TestAllByChance(t *testing.T) {
	t.Parallel()
	shorter, again, unreached := 0, 0, 0
	for seed := range int64(6000) {
		p := manyPrograms(seed)
		q := allOf(t, p)
		if want := composed(p); rtl.Text(q) != rtl.Text(want) {
			t.Fatalf("P15.1: All of %s: %swant %s", rtl.Text(p), rtl.Text(q), rtl.Text(want))
		}
		if !isReached(q) {
			t.Fatalf("P15.3: All of %s: %s", rtl.Text(p), rtl.Text(q))
		}
		if !isReached(p) {
			unreached++
		}
		if nodes(q) < nodes(p) {
			shorter++
		}
		for n, f := range q.Funcs {
			for _, g := range []rtl.Func{f, deadPass.answer(t, p.Funcs[n])} {
				if told(deadPass.answer(t, g)) != told(g) {
					t.Fatalf("P15.3: Dead of %s: %s", told(g), told(deadPass.answer(t, g)))
				}
			}
		}
		again += rounds(t, p) - 1
	}
	t.Logf("%d are shorter, %d have nodes not reached, %d times something is left for another round", shorter, unreached, again)
	if shorter < 3000 || unreached < 2000 || again < 10 {
		t.Errorf("P15.1: %d are shorter, %d have nodes not reached, %d times something is left for another round", shorter, unreached, again)
	}
}

// TestRounds has what is left for another round.
func TestRounds(t *testing.T) {
	sum := func(d int) rtl.Instr { return fixed(api.Add, 7, 1, d, 0) }
	// The first round leaves out what writes over the sum; so the second one finds it there.
	p := alone(function(row(sum(1), output(1, 0), nothing(0), constant(1, 9, 0), sum(2), leave(2))...))
	want := []rtl.Prog{p, alone(function(row(sum(1), output(1, 0), sum(2), leave(2))...)), alone(function(row(sum(1), output(1, 0), move(1, 2, 0), leave(2))...))}
	for n := range 11 {
		got, e := Rounds(p, n)
		if e != api.OK || rtl.Text(got) != rtl.Text(want[min(n, 2)]) {
			t.Errorf("P15.1: Rounds(%d): %d, %s", n, e, rtl.Text(got))
		}
	}
	for _, n := range []int{lowest, -2, -1, 11, 12, highest} {
		if got, e := Rounds(p, n); e != api.EARG || rtl.Text(got) != rtl.Text(rtl.Prog{}) {
			t.Errorf("P15.1: Rounds(%d): %d, %s", n, e, rtl.Text(got))
		}
	}
}

// TestBranchesKnownByCopies has a loop in which two numbers, given and taken in either order, have one sum: that is known of a copy of it, where the ways meet, but of the sum itself it is not. So only when it is copied a branch goes one way alone.
func TestBranchesKnownByCopies(t *testing.T) {
	sum := func(d, s int) rtl.Instr { return bin(api.Add, 0, 1, d, s) }
	f := function(
		constant(0, 1, 1), constant(1, 2, 2),
		test(api.Eq, 0, 1, 3, 15), // the branch
		input(4, 4), test(api.Eq, 4, 0, 5, 6),
		sum(2, 10),
		move(0, 5, 7), move(1, 0, 8), move(5, 1, 9), sum(2, 10),
		sum(3, 11), fixed(api.Sub, 3, 2, 0, 12), fixed(api.Sub, 3, 1, 1, 13),
		output(4, 14), test(api.Lt, 4, 5, 2, 16), output(6, 16), leave(3))
	f.Params = nil
	p := alone(f)
	if isReached(composed(p)) {
		t.Fatalf("P15.3: once is enough for %s", rtl.Text(p))
	}
	q := allOf(t, p)
	if !isReached(q) {
		t.Errorf("P15.3: All of %s: %s", rtl.Text(p), rtl.Text(q))
	}
	for _, world := range [][]int64{{0, 1, 5}, {7}, {1, 0, 2, 9}, nil} {
		b := &bench{t, p, q, nil, world}
		b.holds()
		if a, c := b.run(p, 1000), b.run(q, 1000); a.Kind == api.Halt && !trace.Same(a, c) {
			t.Errorf("P15.2: %+v, it was %+v", c, a)
		}
	}
}
