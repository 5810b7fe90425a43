package ltl_test

import (
	"fmt"
	"slices"
	"testing"

	"plumbob/api"
	"plumbob/ltl"
	"plumbob/rtl"
)

// TestRefused has each way in which Run is EARG, and the edges at which it is not.
func TestRefused(t *testing.T) {
	two := program(function(2, move(6, 0), leave()))
	second := rtl.Prog{Main: 1, Funcs: []rtl.Func{function(0, leave()), function(1, move(7, 0), leave())}}
	for _, c := range []struct {
		what string
		p    rtl.Prog
		args []int64
		fuel int
		want string
	}{
		{"the most fuel", two, l(5, 6), 10000000, "halt 6|2"},
		{"fuel 2", two, l(lowest, highest), 2, "halt 9223372036854775807|2"},
		{"fuel 1", two, l(5, 6), 1, "fuel|1"},
		{"no fuel", two, l(5, 6), 0, "fuel|0"},
		{"fuel -1", two, l(5, 6), -1, ""},
		{"the least fuel", two, l(5, 6), lowest, ""},
		{"fuel 10000001", two, l(5, 6), 10000001, ""},
		{"all fuel", two, l(5, 6), highest, ""},
		{"no args", two, nil, 9, ""},
		{"an arg too few", two, l(5), 9, ""},
		{"an arg too many", two, l(5, 6, 7), 9, ""},
		{"main's args", second, l(8), 9, "halt 8|2"},
		{"the first function's args", second, nil, 9, ""},
		{"no program", rtl.Prog{}, nil, 9, ""},
		{"rtl's Good alone", rtl.Prog{Funcs: []rtl.Func{{Regs: 1, Code: []rtl.Instr{constant(0, 1), leave()}}}}, nil, 9, ""},
		{"15 locations", rtl.Prog{Funcs: []rtl.Func{{Regs: 15, Code: []rtl.Instr{leave()}}}}, nil, 9, ""},
		{"a location 4", program(function(0, constant(4, 1), leave())), nil, 9, ""},
		{"a location 10 behind the end", program(function(0, leave(), constant(10, 1), leave())), nil, 9, ""},
		{"a wrong Sub", program(function(0, rtl.Instr{Op: rtl.Load, Sub: 2}, leave())), nil, 9, ""},
		{"other parameters", rtl.Prog{Funcs: []rtl.Func{{Params: []int{6}, Regs: 16, Code: []rtl.Instr{leave()}}}}, l(1), 9, ""},
	} {
		r, e := ltl.Run(c.p, c.args, l(1), c.fuel)
		if c.want != "" && (e != api.OK || told(r) != c.want) {
			t.Errorf("P16.1: Run with %s: %s (%d), want %s", c.what, told(r), e, c.want)
		}
		if c.want == "" && (e != api.EARG || fmt.Sprint(r) != fmt.Sprint(api.Run{})) {
			t.Errorf("P16.1: Run with %s: %s (%d)", c.what, told(r), e)
		}
	}
}

// filled gives all locations that may be named a number: 100 and its own.
func filled() []rtl.Instr {
	var code []rtl.Instr
	for _, loc := range nameable(20) {
		code = append(code, constant(loc, int64(100+loc)))
	}
	return code
}

const fills = 17 // steps of filled

// TestCallee: all locations of a callee are Undef at first, slots too, but its parameters, whatever the caller has there, and whatever an earlier call left there.
func TestCallee(t *testing.T) {
	for params := range 7 {
		for _, loc := range nameable(20) {
			what := fmt.Sprintf("%d in a callee with %d parameters", loc, params)
			reads := function(params, move(loc, 0), leave())
			// What a call that was there ahead of it wrote is gone as well.
			spoils := function(params, append(filled(), leave())...)
			calls := slices.Concat(filled(), []rtl.Instr{call(2, params)}, filled(), []rtl.Instr{call(1, params), leave()})
			p := program(function(0, calls...), reads, spoils)
			end := "stuck"
			if slices.Contains(order[:params], loc) {
				end = fmt.Sprintf("halt %d", 100+loc)
			}
			runs(t, what, p, nil, nil, fmt.Sprintf("%s|call2,0 call1,0 %d", end, fills+1+fills+1+fills+1+2+1))
			// main is a callee, too.
			end = "stuck"
			if slices.Contains(order[:params], loc) {
				end = fmt.Sprintf("halt %d", 200+slices.Index(order, loc))
			}
			runs(t, what+", which is main", program(reads), l(200, 201, 202, 203, 204, 205)[:params], nil, end+"|2")
		}
	}
}

// TestBehind: behind a call 0 is the answer, what is kept is as it was, all else is Undef; whatever the callee did there.
func TestBehind(t *testing.T) {
	callees := map[string]rtl.Func{
		"one that writes all":     function(0, append(filled(), constant(0, 7), leave())...),
		"one that writes nothing": function(0, constant(0, 7), leave()),
		"one with parameters":     function(6, constant(7, 1), constant(9, 1), constant(0, 7), leave()),
		"one that calls":          function(2, append(filled(), call(2, 0), constant(0, 7), leave())...),
	}
	inner := function(0, append(filled(), leave())...)
	for name, callee := range callees {
		for _, loc := range nameable(20) {
			p := program(function(0, slices.Concat(filled(), []rtl.Instr{call(1, len(callee.Params)), move(loc, 0), leave()})...), callee, inner)
			want := "stuck"
			if loc == 0 {
				want = "halt 7"
			} else if isKept(loc) {
				want = fmt.Sprintf("halt %d", 100+loc)
			}
			r, e := ltl.Run(p, nil, nil, 1000)
			if got := told(api.Run{Kind: r.Kind, Exit: r.Exit}); e != api.OK || got != want+"|0" {
				t.Errorf("P16.1: %d behind a call of %s: %s (%d), want %s", loc, name, got, e, want)
			}
		}
	}
}

// TestKeptAll: many slots, kept over calls of a function that has as many; and fewer, or more.
func TestKeptAll(t *testing.T) {
	for _, most := range []int{16, 17, 40, 5000} {
		wide := function(0, constant(0, 1), constant(most-1, 9), leave())
		wide.Regs = most
		for _, regs := range []int{17, 18, 100, 5000} {
			main := function(0, constant(regs-1, 5), constant(15, 6), call(1, 0), fixed(api.Add, 15, 0, 0), output(0), move(regs-1, 0), leave())
			main.Regs = regs
			runs(t, fmt.Sprintf("%d locations, and %d of a callee", regs, most), program(main, wide), nil, nil, "out 6|halt 5|call1,0 10")
		}
	}
}

// TestAnswers: an answer may be an Int, a pointer, Undef.
func TestAnswers(t *testing.T) {
	points := function(0, rtl.Instr{Op: rtl.Global, D: 0, K: 8}, leave())
	frames := function(0, rtl.Instr{Op: rtl.Frame, D: 0}, leave())
	frames.Frame = 8
	load := rtl.Instr{Op: rtl.Load, Sub: 8, A: 0, D: 0}
	for _, c := range []struct {
		what   string
		callee rtl.Func
		then   []rtl.Instr
		want   string
	}{
		{"an Int", function(0, constant(0, -5), leave()), nil, "halt -5|call1,0 4"},
		{"Undef", function(0, leave()), nil, "stuck|call1,0 3"},
		{"Undef, dropped", function(0, leave()), []rtl.Instr{constant(0, 3)}, "halt 3|call1,0 4"},
		{"Undef, asked", function(0, leave()), []rtl.Instr{output(0)}, "stuck|call1,0 3"},
		{"a pointer", points, nil, "stuck|call1,0 4"},
		{"a pointer, loaded from", points, []rtl.Instr{load}, "halt 0|call1,0 addr1,8 5"},
		{"a pointer, compared", points, []rtl.Instr{fixed(api.Ne, 0, 0, 0)}, "halt 1|call1,0 5"},
		{"a pointer to what is freed", frames, []rtl.Instr{load}, "stuck|call1,0 addr4,0 4"},
		{"what an earlier call answered", function(0, constant(0, 8), leave()), []rtl.Instr{call(2, 0)}, "stuck|call1,0 call2,0 6"},
	} {
		p := program(function(0, slices.Concat([]rtl.Instr{call(1, 0)}, c.then, []rtl.Instr{leave()})...), c.callee, function(0, leave()))
		runs(t, c.what, p, nil, nil, c.want)
	}
}

// reading is an instruction that reads a location that is Undef, and what it comes to: 3 has the Int 3 there, 5 a pointer to a global, and 3 is answered.
type reading struct {
	i     rtl.Instr
	leaks string
	ends  bool // it is not Stuck there
}

func readings(undef int) []reading {
	return []reading{
		{rtl.Instr{Op: rtl.Nop, A: undef}, "", true},
		{move(undef, 12), "", true},
		{rtl.Instr{Op: rtl.Store, Sub: 8, A: 5, B: undef}, "addr1,0 ", true},
		{output(undef), "", false},
		{fixed(api.Add, undef, 1, 12), "", false},
		{rtl.Instr{Op: rtl.Un, Sub: api.Not, A: undef, D: 12}, "", false},
		{rtl.Instr{Op: rtl.Bin, Sub: api.Eq, A: undef, B: undef, D: 12}, "", false},
		{rtl.Instr{Op: rtl.Bin, Sub: api.Add, A: 5, B: undef, D: 12}, "", false},
		{rtl.Instr{Op: rtl.Bin, Sub: api.Div, A: 3, B: undef, D: 12}, "", false},
		{rtl.Instr{Op: rtl.Bin, Sub: api.Mod, A: undef, B: 3, D: 12}, "", false},
		{rtl.Instr{Op: rtl.Load, Sub: 8, A: undef, D: 12}, "", false},
		{rtl.Instr{Op: rtl.Store, Sub: 8, A: undef, B: 3}, "", false},
		{rtl.Instr{Op: rtl.Cond, Sub: api.Eq, A: undef, B: undef}, "", false},
		{rtl.Instr{Op: rtl.Cond, Sub: api.Lt, A: 3, B: undef}, "", false},
	}
}

// TestUndef: what reads a location that is Undef, since it is a callee's or since a call lost it, is as chapter 12 says.
func TestUndef(t *testing.T) {
	ready := []rtl.Instr{{Op: rtl.Global, D: 5}, constant(3, 3)}
	for _, undef := range []int{1, 2, 6, 7, 8, 9} {
		for _, c := range readings(undef) {
			what := fmt.Sprintf("Op %d with %d", c.i.Op, undef)
			reads := []rtl.Instr{c.i, move(3, 0), leave()}
			end, steps := "stuck", 1
			if c.ends {
				end, steps = "halt 3", 3
			}
			loses := function(0, slices.Concat(filled(), ready, []rtl.Instr{call(1, 0)}, reads)...)
			runs(t, what+" behind a call", program(loses, function(0, leave())), nil, nil, fmt.Sprintf("%s|call1,0 %s%d", end, c.leaks, fills+4+steps))
			calls := function(0, append(filled(), call(1, 0), leave())...)
			if c.ends {
				steps++
			}
			runs(t, what+" in a callee", program(calls, function(0, append(ready, reads...)...)), nil, nil, fmt.Sprintf("%s|call1,0 %s%d", end, c.leaks, fills+3+steps))
		}
	}
}

// TestUndefArgs: an argument may be Undef, also one that an earlier call lost; and so may what is stored.
func TestUndefArgs(t *testing.T) {
	p := program(function(0, constant(7, 1), constant(6, 2), call(1, 2), constant(7, 4), call(1, 2), leave()), function(2, fixed(api.Add, 7, 5, 0), leave()))
	runs(t, "an argument that is lost, and not asked", p, nil, nil, "halt 9|call1,0 call1,0 10")
	p.Funcs[1].Code[0].A = 6
	runs(t, "an argument that is lost, and asked", p, nil, nil, "stuck|call1,0 call1,0 8")
	p = program(function(0, constant(6, 1), call(1, 0), rtl.Instr{Op: rtl.Global, D: 3}, rtl.Instr{Op: rtl.Store, Sub: 8, A: 3, B: 6}, rtl.Instr{Op: rtl.Load, Sub: 8, A: 3, D: 0}, leave()), function(0, leave()))
	runs(t, "a lost location that is stored and loaded", p, nil, nil, "stuck|call1,0 addr1,0 addr1,0 7")
}

// TestWithin: calls within calls each have their own locations; what they keep is their own.
func TestWithin(t *testing.T) {
	// main keeps 1 in 3 and 16, f 10 in them, g 100: each adds what it kept to what it was answered.
	level := func(k int64, inner ...rtl.Instr) rtl.Func {
		return function(1, slices.Concat([]rtl.Instr{constant(3, k), move(7, 16)}, inner, []rtl.Instr{{Op: rtl.Bin, Sub: api.Add, A: 0, B: 3, D: 0}, {Op: rtl.Bin, Sub: api.Add, A: 0, B: 16, D: 0}, leave()})...)
	}
	p := program(level(1, constant(7, 1000), call(1, 1)), level(10, constant(7, 2000), call(2, 1)), level(100, constant(0, 5)))
	runs(t, "calls within calls", p, l(4000), nil, "halt 7116|call1,0 call2,0 20")
	// The same two times: nothing of the first time is there the second one.
	twice := program(function(1, move(7, 3), call(1, 1), move(0, 12), move(3, 7), call(1, 1), rtl.Instr{Op: rtl.Bin, Sub: api.Add, A: 0, B: 12, D: 0}, leave()), p.Funcs[1], p.Funcs[2])
	runs(t, "the same call again", twice, l(3000), nil, "halt 10230|call1,0 call2,0 call1,0 call2,0 33")
}

// falling calls itself as often as its argument says, and answers the sum of all that it was given.
func falling(self int) rtl.Func {
	f := function(1, test(api.Le, 7, 0, 0), constant(0, 0), leave(), move(7, 16), fixed(api.Sub, 7, 1, 7), call(self, 1), rtl.Instr{Op: rtl.Bin, Sub: api.Add, A: 0, B: 16, D: 0}, leave())
	f.Code[0].T = 3
	return f
}

// TestItself: calls of itself, main too, as many within one another as there may be.
func TestItself(t *testing.T) {
	p := program(falling(0))
	runs(t, "a sum", p, l(4), nil, "halt 10|branch0,0 call0,0 branch0,0 call0,0 branch0,0 call0,0 branch0,0 call0,0 branch1,0 27")
	// What it must keep is in a location that is lost: 1 in the slot's place.
	broken := program(falling(0))
	broken.Funcs[0].Code[3].D, broken.Funcs[0].Code[6].B = 1, 1
	runs(t, "a sum that is lost", broken, l(2), nil, "stuck|branch0,0 call0,0 branch0,0 call0,0 branch1,0 12")
	for n, want := range map[int64]string{19999: "halt 199990000|0", 20000: "stuck|0", 30000: "stuck|0"} {
		r, e := ltl.Run(p, l(n), nil, 10000000)
		steps := 6*int(n) + 3
		if n > 19999 {
			steps = 4 * 20000
		}
		last := api.Leak{Kind: api.Branch, A: 1}
		if r.Kind == api.Stuck {
			last = api.Leak{Kind: api.Call}
		}
		if got := told(api.Run{Kind: r.Kind, Exit: r.Exit}); e != api.OK || got != want || r.Steps != steps || r.Leaks[len(r.Leaks)-1] != last {
			t.Errorf("P16.1: %d calls within main's: %s in %d steps, at last %v (%d), want %s in %d", n, got, r.Steps, r.Leaks[len(r.Leaks)-1], e, want, steps)
		}
	}
	ring := program(function(0, call(1, 0), leave()), function(0, call(0, 0), leave()))
	if r, e := ltl.Run(ring, nil, nil, 5); e != api.OK || told(r) != "fuel|call1,0 call0,0 call1,0 call0,0 call1,0 5" {
		t.Errorf("P16.1: two that call one another: %s", told(r))
	}
}

// TestWhole has events, leaks and memory of each kind in one program.
func TestWhole(t *testing.T) {
	main := function(2,
		move(6, 12), rtl.Instr{Op: rtl.Frame, D: 3, K: 8}, rtl.Instr{Op: rtl.Store, Sub: 8, A: 3, B: 7}, rtl.Instr{Op: rtl.In, D: 16}, move(3, 7), move(16, 6),
		call(1, 2), output(0), rtl.Instr{Op: rtl.Bin, Sub: api.Div, A: 0, B: 12, D: 0}, test(api.Gt, 0, 2, 0), output(16), leave())
	main.Frame = 16
	main.Code[9].T = 11
	callee := function(2, rtl.Instr{Op: rtl.Load, Sub: 8, A: 7, D: 0}, rtl.Instr{Op: rtl.Global, D: 8, K: 4}, rtl.Instr{Op: rtl.Store, Sub: 4, A: 8, B: 6, K: 4}, rtl.Instr{Op: rtl.Load, Sub: 1, A: 8, D: 9, K: 4}, output(9), rtl.Instr{Op: rtl.Bin, Sub: api.Add, A: 0, B: 9, D: 0}, leave())
	p := program(main, callee)
	for _, c := range []struct {
		args, world []int64
		want        string
	}{
		{l(30, 7), l(5), "in 5|out 5|out 35|out 5|halt 5|addr3,8 call1,0 addr3,8 addr1,8 addr1,8 divide35,7 branch1,0 19"},
		{l(30, 20), l(200), "in 200|out -56|out -26|halt -1|addr3,8 call1,0 addr3,8 addr1,8 addr1,8 divide-26,20 branch0,0 18"},
		{l(30, 0), nil, "in 0|out 0|out 30|stuck|addr3,8 call1,0 addr3,8 addr1,8 addr1,8 divide30,0 16"},
	} {
		runs(t, fmt.Sprintf("the program with %v, %v", c.args, c.world), p, c.args, c.world, c.want)
	}
}

// TestBlocks: a memory makes 100000 blocks, the globals' and main's among them: a call behind that is Stuck.
func TestBlocks(t *testing.T) {
	main := function(1, move(7, 3), test(api.Eq, 3, 0, 0), constant(0, 1), leave(), fixed(api.Sub, 3, 1, 3), call(1, 0), rtl.Instr{Op: rtl.Nop})
	main.Code[1].T, main.Code[6].S = 4, 1
	p := program(main, function(0, leave()))
	for n, want := range map[int64]int{99996: api.Halt, 99997: api.Halt, 99998: api.Stuck} {
		if r, e := ltl.Run(p, l(n), nil, 10000000); e != api.OK || r.Kind != want {
			t.Errorf("P16.1: %d calls: %d", n, r.Kind)
		}
	}
}

// TestGreatFuel: the most fuel is used up, and not passed.
func TestGreatFuel(t *testing.T) {
	ring := program(function(0, rtl.Instr{Op: rtl.Nop}))
	ring.Funcs[0].Code[0].S = 0
	for _, fuel := range []int{9999999, 10000000} {
		if r, e := ltl.Run(ring, nil, nil, fuel); e != api.OK || told(r) != fmt.Sprintf("fuel|%d", fuel) {
			t.Errorf("P16.1: with fuel %d: %s (%d)", fuel, told(r), e)
		}
	}
}
