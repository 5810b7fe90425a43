package alloc

import (
	"math/rand"
	"slices"
	"testing"

	"plumbob/api"
	"plumbob/graphs"
	"plumbob/ltl"
	"plumbob/rtl"
	"plumbob/trace"
)

// madeOf is what Allocate makes of a program; it asks all that it promises but what it means.
func madeOf(t *testing.T, p rtl.Prog) rtl.Prog {
	t.Helper()
	before := dump(p)
	q, e := Allocate(p)
	if e != api.OK || !ltl.Good(q) || !isKin(p, q) {
		t.Fatalf("P17.2: Allocate of %.3000s: %.3000s (%d)", rtl.Text(p), rtl.Text(q), e)
	}
	if again, _ := Allocate(p); dump(again) != dump(q) {
		t.Fatalf("R5: Allocate of %.3000s: %.3000s, and once more %.3000s", rtl.Text(p), rtl.Text(q), rtl.Text(again))
	}
	if dump(p) != before {
		t.Fatalf("R4: Allocate of %.3000s: it is changed: %.3000s", before, dump(p))
	}
	return q
}

// isKin tells whether two programs have the same Globals and main, and functions of the same Names and Frames.
func isKin(p, q rtl.Prog) bool {
	return slices.Equal(p.Globals, q.Globals) && p.Main == q.Main && slices.EqualFunc(p.Funcs, q.Funcs, func(f, g rtl.Func) bool {
		return f.Name == g.Name && f.Frame == g.Frame && len(f.Params) == len(g.Params)
	})
}

// refused asks that Allocate refuses a program.
func refused(t *testing.T, what string, p rtl.Prog, want api.Errno) {
	t.Helper()
	before := dump(p)
	if q, e := Allocate(p); e != want || dump(q) != dump(rtl.Prog{}) || dump(p) != before {
		t.Errorf("P17.2: Allocate of a program with %s, %.500s: %.500s (%d), want %d", what, before, rtl.Text(q), e, want)
	}
}

// TestProgramsRefused has programs with functions at the edges of what is right, and others at those of what is well formed.
func TestProgramsRefused(t *testing.T) {
	for _, c := range graphs.Cases() {
		for _, p := range []rtl.Prog{program(c.Func), program(c.Func, with(function(2, leave(-1)), 0, 1)), program(function(0, leave(-1)), c.Func)} {
			if !rtl.Good(p) {
				refused(t, c.Name, p, api.EARG)
			} else {
				madeOf(t, p)
			}
		}
	}
	one := function(1, row(input(0), leave(0))...)
	global := function(1, row(rtl.Instr{Op: rtl.Global, Sub: 1, K: 9}, leave(-1))...)
	for what, p := range map[string]rtl.Prog{
		"nothing": {}, "main -1": {Funcs: []rtl.Func{one}, Main: -1}, "main 1 of 1": {Funcs: []rtl.Func{one}, Main: 1}, "101 functions": {Funcs: slices.Repeat([]rtl.Func{one}, 101)},
		"201 globals": {Funcs: []rtl.Func{one}, Globals: make([]int, 201)}, "a global of 65537": {Funcs: []rtl.Func{one}, Globals: []int{65537}}, "a byte that is no global's": program(global),
		"a call of none": program(function(1, row(call(0), leave(0))...)), "too few arguments": program(function(1, row(call(0), leave(0))...), with(one, 0)), "a wrong function behind": program(one, function(0)),
		"a wrong function behind one with seven parameters": program(with(function(7, leave(0)), numbers(7)...), function(0)),
	} {
		refused(t, what, p, api.EARG)
	}
	for _, p := range []rtl.Prog{{Funcs: slices.Repeat([]rtl.Func{one}, 100), Main: 99, Globals: make([]int, 200)}, program(one), {Funcs: []rtl.Func{one, one}, Main: 1}} {
		madeOf(t, p)
	}
}

// TestParameterLimit: six are taken, and seven are not, of main and of others, called or not.
func TestParameterLimit(t *testing.T) {
	for count := range 12 {
		f := with(function(count+1, leave(count)), numbers(count)...)
		caller := function(1, row(input(0), call(0, slices.Repeat([]int{0}, count)...), leave(0))...)
		for _, p := range []rtl.Prog{program(f), program(caller, f), program(function(0, leave(-1)), f)} {
			if count <= 6 {
				q := madeOf(t, p)
				if at := min(1, len(q.Funcs)-1); !slices.Equal(q.Funcs[at].Params, order[:count]) {
					t.Errorf("P17.2: Allocate with %d parameters: %s", count, rtl.Text(q))
				}
			} else {
				refused(t, "many parameters", p, api.ELIMIT)
			}
		}
	}
}

// TestNodeLimit: as many nodes as may be are taken, and one more is not; what can't be reached is not asked.
func TestNodeLimit(t *testing.T) {
	t.Parallel()
	for _, c := range []struct {
		name  string
		grows int
		end   []rtl.Instr
	}{
		{"an answer", 0, []rtl.Instr{leave(0)}}, {"no answer", 1, []rtl.Instr{leave(-1)}}, {"a call", 0, []rtl.Instr{callOf(0, 0), leave(0)}}, {"an answer that is kept", 2, []rtl.Instr{callOf(0, 1), callOf(0, -1), add(0, 1, 0), leave(0)}},
		{"arguments twice", 5, []rtl.Instr{callOf(1, -1, 0, 0), callOf(1, -1, 0, 0), leave(0)}},
	} {
		for nodes := 4990; nodes <= 5000; nodes++ {
			code := slices.Repeat([]rtl.Instr{nothing(0)}, nodes-len(c.end)-1)
			p := program(function(2, row(append(append([]rtl.Instr{input(0)}, code...), c.end...)...)...), with(function(2, leave(-1)), 0, 1))
			q, e := Allocate(p)
			if e == api.OK != (nodes+c.grows <= 5000) || e != api.OK && e != api.ELIMIT {
				t.Errorf("P17.2: Allocate of %d nodes with %s: %d", nodes, c.name, e)
			}
			if e == api.OK && (len(q.Funcs[0].Code) != nodes+c.grows || !ltl.Good(q)) || e != api.OK && dump(q) != dump(rtl.Prog{}) {
				t.Errorf("P17.2: Allocate of %d nodes with %s: %d nodes", nodes, c.name, len(q.Funcs[0].Code))
			}
		}
	}
	strangers := slices.Repeat([]rtl.Instr{to(0, callOf(1, 0, 1, 1))}, 4999)
	q := madeOf(t, program(function(2, append([]rtl.Instr{leave(-1)}, strangers...)...), with(function(2, leave(-1)), 1, 0)))
	if len(q.Funcs[0].Code) != 2 {
		t.Errorf("P17.2: Allocate leaves %d nodes of those that can't be reached", len(q.Funcs[0].Code))
	}
}

// readers is a function in which so many registers are live at the entry; its end leaves the first one's place to the sums.
func readers(count int) rtl.Func {
	var code []rtl.Instr
	for r := 0; r < count; r += 2 {
		code = append(code, add(r, min(r+1, count-1), r))
	}
	return function(count, row(append(code, leave(0))...)...)
}

// TestLocationLimit: as many registers live at once as there are locations are taken, and one more is not.
func TestLocationLimit(t *testing.T) {
	t.Parallel()
	for _, count := range []int{2, 13, 14, 1000, 4997, 4998, 5000} {
		f := readers(count)
		giving := coloured(t, f)
		if n := Spills(giving); n != max(0, count-13) {
			t.Errorf("P17.1: Colour of %d at once: %d slots", count, n)
		}
		p := program(f)
		if count > 4997 {
			refused(t, "many at once", p, api.ELIMIT)
			continue
		}
		if q := madeOf(t, p); q.Funcs[0].Regs != max(16, count+3) {
			t.Errorf("P17.2: Allocate of %d at once: %d locations", count, q.Funcs[0].Regs)
		}
	}
}

// TestLimitBehind: a function behind others is asked as well.
func TestLimitBehind(t *testing.T) {
	refused(t, "a great function behind", program(function(1, row(input(0), leave(0))...), readers(5000)), api.ELIMIT)
}

// TestFields: what the table of chapter 12 does not name is 0.
func TestFields(t *testing.T) {
	for seed := range int64(300) {
		r := rand.New(rand.NewSource(seed))
		p := graphs.New(r.Intn, 20).Program()
		q := madeOf(t, p)
		if any := madeOf(t, graphs.Scrambled(r.Intn, p)); dump(any) != dump(q) {
			t.Errorf("P17.2: Allocate of %swith any number where nobody asks: %s, and it was %s", rtl.Text(p), dump(any), dump(q))
		}
		for _, f := range q.Funcs {
			if f.Entry != 0 {
				t.Errorf("P17.2: Allocate of %s: the entry %d", rtl.Text(p), f.Entry)
			}
			for _, i := range f.Code {
				if named := rtl.Renamed(i, func(loc int) int { return loc }); dump(named) != dump(i) {
					t.Errorf("R2: Allocate of %s: %s", rtl.Text(p), dump(i))
				}
			}
		}
	}
}

// plain asks that what is made of a function has no moves, but so many.
func plain(t *testing.T, what string, p rtl.Prog, grows int) {
	t.Helper()
	if q := madeOf(t, p); len(q.Funcs[0].Code) != len(p.Funcs[0].Code)+grows {
		t.Errorf("P17.2: Allocate of %s: %s", what, rtl.Text(q))
	}
}

func TestFewMoves(t *testing.T) {
	two := with(function(2, leave(0)), 0, 1)
	plain(t, "a function of its parameters", program(with(function(3, row(add(0, 1, 2), leave(2))...), 0, 1)), 0)
	plain(t, "one of them changed", program(with(function(2, row(add(0, 1, 0), leave(0))...), 0, 1)), 1)
	plain(t, "a call at the end", program(with(function(3, row(call(2, 0, 1), leave(2))...), 0, 1), two), 0)
	plain(t, "a call whose answer is dropped", program(with(function(2, row(call(-1, 0, 1), leave(-1))...), 0, 1), two), 1)
	plain(t, "arguments that change places", program(with(function(3, row(call(2, 1, 0), leave(2))...), 0, 1), two), 3)
	plain(t, "a parameter over a call", program(with(function(3, row(call(2, 0, 1), add(0, 2, 2), leave(2))...), 0, 1), two), 2)
	plain(t, "a copy", program(with(function(2, row(copied(0, 1), leave(1))...), 0)), 0)
}

// TestRun does by hand what the meaning's tests ask of many.
func TestRun(t *testing.T) {
	sub := with(function(3, row(rtl.Instr{Op: rtl.Bin, Sub: api.Sub, A: 1, B: 0, D: 2}, leave(2))...), 1, 0)
	main := with(function(4, row(call(2, 0, 1), output(2), call(3, 1, 0), output(3), rtl.Instr{Op: rtl.Bin, Sub: api.Mul, A: 2, B: 3, D: 0}, leave(0))...), 0, 1)
	q := madeOf(t, program(main, sub))
	if r, e := ltl.Run(q, l(9, 2), nil, 1000); e != api.OK || trace.Text(r) != "out 7\nout -7\nhalt -49\n" {
		t.Errorf("P17.2: %s: %s (%d)", rtl.Text(q), trace.Text(r), e)
	}
}
