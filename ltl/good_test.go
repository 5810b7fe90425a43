package ltl_test

import (
	"fmt"
	"slices"
	"strings"
	"testing"

	"plumbob/api"
	"plumbob/ltl"
	"plumbob/rtl"
)

// names has the registers that chapter 12's table names of each Op: b may be none.
var names = map[int]string{
	rtl.Nop: "", rtl.Const: "D", rtl.Copy: "AD", rtl.Un: "AD", rtl.Bin: "AbD", rtl.Load: "AD", rtl.Store: "AB", rtl.Global: "D", rtl.Frame: "D",
	rtl.Call: "D", rtl.Cond: "Ab", rtl.Return: "A", rtl.In: "D", rtl.Out: "A",
}

// right is an instruction of an Op that may be.
func right(op int) rtl.Instr {
	i := rtl.Instr{Op: op, S: 1, T: 1}
	switch op {
	case rtl.Un:
		i.Sub = api.Neg
	case rtl.Bin, rtl.Cond:
		i.Sub = api.Ne
	case rtl.Load, rtl.Store:
		i.Sub = 8
	case rtl.Call:
		i.Args = []int{7, 6}
	}
	return i
}

// around is a program with an instruction in the function 0, whose parameters are 7 and 6.
func around(i rtl.Instr) rtl.Prog {
	f := function(2, i, leave())
	f.Code[0].S = i.S
	main := function(0, constant(0, 1), leave())
	return rtl.Prog{Globals: []int{16, 0}, Main: 1, Funcs: []rtl.Func{f, main}}
}

// good asks whether a program is Good, and that Run takes it just then.
func good(t *testing.T, what string, p rtl.Prog, want bool) {
	t.Helper()
	if ltl.Good(p) != want {
		t.Errorf("P16.1: Good of %s: %t", what, !want)
	}
	var args []int64
	if p.Main >= 0 && p.Main < len(p.Funcs) {
		args = make([]int64, len(p.Funcs[p.Main].Params))
	}
	r, e := ltl.Run(p, args, nil, 5)
	if want && (e != api.OK || r.Kind == 0) || !want && (e != api.EARG || fmt.Sprint(r) != fmt.Sprint(api.Run{})) {
		t.Errorf("P16.1: Run of %s: %d, %s", what, e, told(r))
	}
}

// may tells whether a location may stand in a field of an Op.
func may(op int, field string, loc int) bool {
	named := names[op]
	if strings.Contains(named, strings.ToLower(field)) && loc == -1 {
		return true
	}
	if !strings.Contains(strings.ToUpper(named), field) {
		return true
	}
	if op == rtl.Call || op == rtl.Return {
		return loc == 0
	}
	return mayName(loc) && loc < 20
}

// TestGoodFields has each location, and what is none, in A, B and D of each Op, be they named or not.
func TestGoodFields(t *testing.T) {
	count := 0
	for op := range names {
		for loc := -3; loc < 24; loc++ {
			for _, field := range []string{"A", "B", "D"} {
				i := right(op)
				*map[string]*int{"A": &i.A, "B": &i.B, "D": &i.D}[field] = loc
				good(t, fmt.Sprintf("Op %d with %s %d", op, field, loc), around(i), may(op, field, loc))
				if strings.Contains(strings.ToUpper(names[op]), field) && slices.Contains(reserved, loc) {
					count++
				}
			}
		}
		i := right(op)
		i.A, i.B, i.D = 9, 9, 9
		want := op != rtl.Call && op != rtl.Return
		good(t, fmt.Sprintf("Op %d with 9 in all", op), around(i), want)
	}
	if count != 3*20 {
		t.Errorf("%d times a location that may not be named was named", count)
	}
}

// TestGoodOthers: numbers that are no registers may be 4, 10, 11; so may registers where the table names none.
func TestGoodOthers(t *testing.T) {
	for _, n := range reserved {
		unnamed := rtl.Instr{Op: rtl.Nop, A: n, B: n, D: n, Args: []int{n, n}, S: 1}
		good(t, "a Nop", around(unnamed), true)
		for op := range names {
			if i := right(op); op != rtl.Call {
				i.Args = []int{n, 7}
				good(t, fmt.Sprintf("Op %d with Args %v", op, i.Args), around(i), true)
			}
		}
		for _, i := range []rtl.Instr{
			{Op: rtl.Const, K: int64(n)}, {Op: rtl.Bin, Sub: api.Add, B: -1, K: int64(n)}, {Op: rtl.Load, Sub: 4, K: int64(n)}, {Op: rtl.Store, Sub: 4, K: int64(n)},
			{Op: rtl.Global, K: int64(n)}, {Op: rtl.Cond, Sub: api.Eq, B: -1, K: int64(n)},
		} {
			i.S, i.T = 1, 1
			good(t, fmt.Sprintf("Op %d with K %d", i.Op, n), around(i), true)
		}
		// Functions, nodes, frames.
		many := function(0, slices.Repeat([]rtl.Instr{constant(0, 1)}, 12)...)
		many.Code[11] = leave()
		many.Frame = 16
		many.Code[1] = rtl.Instr{Op: rtl.Frame, D: 9, K: int64(n), S: n}
		many.Code[2] = rtl.Instr{Op: rtl.Cond, Sub: api.Eq, A: 9, B: 9, S: n, T: n}
		many.Entry = n
		p := rtl.Prog{Main: n}
		for range 12 {
			p.Funcs = append(p.Funcs, many)
		}
		p.Funcs[0] = function(0, call(n, 0), leave())
		good(t, fmt.Sprintf("the function, the nodes and the byte %d", n), p, true)
	}
}

// TestGoodRegs: from 16 on, of each function.
func TestGoodRegs(t *testing.T) {
	for _, regs := range []int{lowest, -1, 0, 1, 8, 14, 15, 16, 17, 18, 19, 20, 4999, 5000, 5001, 5016, highest} {
		want := regs >= 16 && regs <= 5000
		for n := range 3 {
			p := rtl.Prog{Main: 2, Funcs: []rtl.Func{function(0, constant(0, 1), leave()), function(1, leave()), function(0, leave())}}
			p.Funcs[n].Regs = regs
			good(t, fmt.Sprintf("%d locations of function %d", regs, n), p, want)
		}
		p := program(function(0, constant(15, 1), move(15, 0), leave()))
		p.Funcs[0].Regs = regs
		good(t, fmt.Sprintf("%d locations, 15 named", regs), p, want)
		p = program(function(0, constant(16, 1), leave()))
		p.Funcs[0].Regs = regs
		good(t, fmt.Sprintf("%d locations, 16 named", regs), p, want && regs > 16)
		p = program(function(0, constant(4999, 1), leave()))
		p.Funcs[0].Regs = regs
		good(t, fmt.Sprintf("%d locations, 4999 named", regs), p, want && regs == 5000)
	}
}

// permutations are all orders of some numbers.
func permutations(of []int) [][]int {
	if len(of) == 0 {
		return [][]int{nil}
	}
	var all [][]int
	for n, first := range of {
		for _, rest := range permutations(slices.Delete(slices.Clone(of), n, n+1)) {
			all = append(all, append([]int{first}, rest...))
		}
	}
	return all
}

// tuples are all lists of so many locations below 17.
func tuples(count int) [][]int {
	all := [][]int{nil}
	for range count {
		var longer [][]int
		for _, l := range all {
			for loc := -1; loc < 17; loc++ {
				longer = append(longer, append(slices.Clone(l), loc))
			}
		}
		all = longer
	}
	return all
}

func lists() [][]int {
	all := slices.Concat(tuples(0), tuples(1), tuples(2))
	for n := 3; n <= 6; n++ {
		all = append(all, permutations(order[:n])...)
		all = append(all, order[1:n], append(slices.Clone(order[:n-1]), 0), append(slices.Clone(order[:n-1]), 3), append(slices.Clone(order[:n-1]), 16), append(slices.Clone(order[:n-1]), order[0]))
	}
	for _, last := range []int{0, 3, 4, 5, 7, 9, 10, 11, 12, 15, 16, 17} {
		all = append(all, append(slices.Clone(order), last), append(slices.Clone(order), last, 18))
	}
	return append(all, []int{0, 1, 2, 3, 5, 6, 7}, []int{16, 17, 18}, []int{1, 2, 6, 7, 8, 9}, []int{7, 6, 2, 1, 9, 8}, []int{7, 6, 2, 1, 8, 9, 9})
}

func isFirstOnes(l []int) bool { return len(l) <= 6 && slices.Equal(l, order[:len(l)]) }

// TestGoodLists has Params and Args of all lengths: right ones, others, and in other orders.
func TestGoodLists(t *testing.T) {
	count := 0
	for _, list := range lists() {
		want := isFirstOnes(list)
		if want {
			count++
		}
		f := function(0, constant(0, 1), leave())
		f.Params = list
		good(t, fmt.Sprintf("main's Params %v", list), program(f), want)
		good(t, fmt.Sprintf("Params %v of a function that is not called", list), program(function(0, leave()), f), want)
		calls := function(0, rtl.Instr{Op: rtl.Call, Sub: 1, Args: list}, leave())
		good(t, fmt.Sprintf("Params and Args %v", list), program(calls, f), want)
		if len(list) <= 6 {
			good(t, fmt.Sprintf("Args %v", list), program(calls, function(len(list), leave())), want)
			calls.Code[0].Args = order[:len(list)]
			good(t, fmt.Sprintf("Params %v, but other Args", list), program(calls, f), want)
		}
	}
	if count < 7 {
		t.Errorf("%d lists are right", count)
	}
	for params := range 7 {
		for args := range 7 {
			good(t, fmt.Sprintf("%d Params and %d Args", params, args), program(function(0, call(1, args), leave()), function(params, leave())), params == args)
		}
	}
}

// TestGoodCalls has each D of a Call, each A of a Return, where they are reached and where they are not.
func TestGoodCalls(t *testing.T) {
	for _, loc := range []int{lowest, -2, -1, 0, 1, 2, 3, 4, 6, 7, 10, 11, 15, 16, 19, 20, highest} {
		i := call(0, 2)
		i.D, i.S = loc, 1
		back := rtl.Instr{Op: rtl.Return, A: loc}
		good(t, fmt.Sprintf("a Call with D %d", loc), around(i), loc == 0)
		good(t, fmt.Sprintf("a Return with A %d", loc), around(back), loc == 0)
		p := around(rtl.Instr{Op: rtl.Nop, S: 1})
		p.Funcs[0].Code = append(p.Funcs[0].Code, i)
		good(t, fmt.Sprintf("a Call with D %d that is not reached", loc), p, loc == 0)
		p.Funcs[0].Code[2] = back
		good(t, fmt.Sprintf("a Return with A %d that is not reached", loc), p, loc == 0)
		p.Funcs[0].Code[2] = leave()
		p.Funcs[1].Code = []rtl.Instr{back}
		good(t, fmt.Sprintf("a Return of main with A %d", loc), p, loc == 0)
		p.Funcs[1].Code = []rtl.Instr{constant(0, 1), leave(), constant(loc, 1)}
		p.Funcs[1].Code[0].S = 1
		good(t, fmt.Sprintf("%d named where it is not reached", loc), p, mayName(loc) && loc < 20)
	}
}

// wrongs are all ways in which rtl's Good is false, but for registers.
func wrongs() map[string]func(p *rtl.Prog) {
	node := func(i rtl.Instr) func(p *rtl.Prog) {
		return func(p *rtl.Prog) { p.Funcs[0].Code[0] = i }
	}
	all := map[string]func(p *rtl.Prog){
		"main 2":                    func(p *rtl.Prog) { p.Main = 2 },
		"main -1":                   func(p *rtl.Prog) { p.Main = -1 },
		"no functions":              func(p *rtl.Prog) { *p = rtl.Prog{} },
		"a global of -1":            func(p *rtl.Prog) { p.Globals[0] = -1 },
		"a global of 65537":         func(p *rtl.Prog) { p.Globals[1] = 65537 },
		"201 globals":               func(p *rtl.Prog) { p.Globals = make([]int, 201) },
		"101 functions":             func(p *rtl.Prog) { p.Funcs = slices.Repeat(p.Funcs[1:], 101) },
		"a frame of -1":             func(p *rtl.Prog) { p.Funcs[1].Frame = -1 },
		"a frame of 65537":          func(p *rtl.Prog) { p.Funcs[0].Frame = 65537 },
		"the entry -1":              func(p *rtl.Prog) { p.Funcs[0].Entry = -1 },
		"the entry 2":               func(p *rtl.Prog) { p.Funcs[0].Entry = 2 },
		"no code":                   func(p *rtl.Prog) { p.Funcs[0].Code = nil },
		"5001 nodes":                func(p *rtl.Prog) { p.Funcs[0].Code = slices.Repeat([]rtl.Instr{leave()}, 5001) },
		"a node that is none":       func(p *rtl.Prog) { p.Funcs[0].Code = []rtl.Instr{leave(), {Op: 15}} },
		"a function without code":   func(p *rtl.Prog) { p.Funcs = append(p.Funcs, rtl.Func{Regs: 16}) },
		"parameters alike":          func(p *rtl.Prog) { p.Funcs[0].Params = []int{7, 7} },
		"too few Args":              node(rtl.Instr{Op: rtl.Call, Args: []int{7}}),
		"too many Args":             node(rtl.Instr{Op: rtl.Call, Args: []int{7, 6, 2}}),
		"a call of -1":              node(rtl.Instr{Op: rtl.Call, Sub: -1}),
		"a call of 2":               node(rtl.Instr{Op: rtl.Call, Sub: 2}),
		"the global -1":             node(rtl.Instr{Op: rtl.Global, Sub: -1}),
		"the global 2":              node(rtl.Instr{Op: rtl.Global, Sub: 2}),
		"byte 17 of a global":       node(rtl.Instr{Op: rtl.Global, K: 17}),
		"byte -1 of a global":       node(rtl.Instr{Op: rtl.Global, K: -1}),
		"byte 1 of a global of 0":   node(rtl.Instr{Op: rtl.Global, Sub: 1, K: 1}),
		"byte 1 of the frame":       node(rtl.Instr{Op: rtl.Frame, K: 1}),
		"byte -1 of the frame":      node(rtl.Instr{Op: rtl.Frame, K: -1}),
		"S 2":                       node(rtl.Instr{Op: rtl.Nop, S: 2}),
		"S -1":                      node(rtl.Instr{Op: rtl.Const, S: -1}),
		"S 2 of Cond":               node(rtl.Instr{Op: rtl.Cond, Sub: api.Eq, S: 2}),
		"T 2 of Cond":               node(rtl.Instr{Op: rtl.Cond, Sub: api.Eq, T: 2}),
		"T -1 of Cond":              node(rtl.Instr{Op: rtl.Cond, Sub: api.Eq, T: -1}),
		"a function without a node": func(p *rtl.Prog) { p.Funcs[1].Code = []rtl.Instr{} },
	}
	for op, subs := range map[int][]int{
		rtl.Un: {lowest, -1, 0, 5, 11}, rtl.Bin: {-1, 0, 4, 10, 27}, rtl.Cond: {0, 1, 11, 20, 27}, rtl.Load: {-1, 0, 2, 3, 5, 7, 16}, rtl.Store: {-8, 0, 2, 3, 5, 7, 16},
	} {
		for _, sub := range subs {
			i := right(op)
			i.Sub = sub
			all[fmt.Sprintf("Sub %d of Op %d", sub, op)] = node(i)
		}
	}
	for _, op := range []int{lowest, -1, 0, 15, 16, highest} {
		all[fmt.Sprintf("Op %d", op)] = node(rtl.Instr{Op: op})
	}
	return all
}

// TestGoodRtl: what rtl's Good refuses is refused; the edges that it takes are taken.
func TestGoodRtl(t *testing.T) {
	whole := func() rtl.Prog { return around(rtl.Instr{Op: rtl.Nop, S: 1}) }
	good(t, "a program as it is", whole(), true)
	for name, change := range wrongs() {
		p := whole()
		change(&p)
		good(t, name, p, false)
	}
	for name, change := range map[string]func(p *rtl.Prog){
		"main 0":                   func(p *rtl.Prog) { p.Main = 0 },
		"no globals":               func(p *rtl.Prog) { p.Globals = nil },
		"200 globals of 65536":     func(p *rtl.Prog) { p.Globals = slices.Repeat([]int{65536}, 200) },
		"100 functions":            func(p *rtl.Prog) { p.Funcs = slices.Repeat(p.Funcs[1:], 100) },
		"a frame of 65536":         func(p *rtl.Prog) { p.Funcs[0].Frame = 65536 },
		"its byte 65536":           func(p *rtl.Prog) { *p = around(rtl.Instr{Op: rtl.Frame, K: 65536, S: 1}); p.Funcs[0].Frame = 65536 },
		"the entry 1":              func(p *rtl.Prog) { p.Funcs[0].Entry = 1 },
		"5000 nodes":               func(p *rtl.Prog) { p.Funcs[0].Code = slices.Repeat([]rtl.Instr{leave()}, 5000) },
		"the byte behind a global": func(p *rtl.Prog) { *p = around(rtl.Instr{Op: rtl.Global, K: 16, S: 1}) },
		"names alike":              func(p *rtl.Prog) { p.Funcs[0].Name, p.Funcs[1].Name = "\xff", "\xff" },
	} {
		p := whole()
		change(&p)
		good(t, name, p, true)
	}
}
