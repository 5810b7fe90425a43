package linear_test

import (
	"fmt"
	"slices"
	"strings"
	"testing"

	"plumbob/api"
	"plumbob/ltl"
	"plumbob/rtl"
	"plumbob/trace"
)

// does asks what a program's run comes to, and that it goes on alike with each fuel, till it ends; ltl's must be the same but for steps.
func does(t *testing.T, what string, p rtl.Prog, args, world []int64, want string) {
	t.Helper()
	made := flat(t, p)
	r, e := made.Run(args, world, 1000000)
	if e != api.OK || told(r) != want {
		t.Errorf("P18.1: %s: %s (%d), want %s", what, told(r), e, want)
		return
	}
	for fuel := range min(r.Steps, 200) {
		part, e := made.Run(args, world, fuel)
		if e != api.OK || part.Kind != api.Fuel || part.Exit != 0 || part.Steps != fuel || !trace.Prefix(part.Events, r.Events) || !slices.Equal(part.Leaks, r.Leaks[:min(len(part.Leaks), len(r.Leaks))]) {
			t.Errorf("P18.1: %s, with fuel %d: %s (%d), not as %s begins", what, fuel, told(part), e, want)
		}
	}
	if exact, _ := made.Run(args, world, r.Steps); told(exact) != want {
		t.Errorf("P18.1: %s, with fuel %d: %s, want %s", what, r.Steps, told(exact), want)
	}
	if above, _ := ltl.Run(p, args, world, 1000000); !trace.Same(above, r) || !trace.Leaks(above, r) {
		t.Errorf("P18.1: %s: %s, and as graphs %s", what, want, told(above))
	}
}

// TestRunRefused has args and fuel at their edges.
func TestRunRefused(t *testing.T) {
	two := program(function(2, row(move(6, 0), leave())...))
	second := rtl.Prog{Main: 1, Funcs: []rtl.Func{function(0, leave()), function(1, row(move(7, 0), leave())...)}}
	for _, c := range []struct {
		what string
		p    rtl.Prog
		args []int64
		fuel int
		want string
	}{
		{"the most fuel", two, l(5, 6), 10000000, "halt 6|2"}, {"fuel 2", two, l(lowest, highest), 2, "halt 9223372036854775807|2"}, {"fuel 1", two, l(5, 6), 1, "fuel|1"}, {"no fuel", two, l(5, 6), 0, "fuel|0"},
		{"fuel -1", two, l(5, 6), -1, ""}, {"the least fuel", two, l(5, 6), lowest, ""}, {"fuel 10000001", two, l(5, 6), 10000001, ""}, {"all fuel", two, l(5, 6), highest, ""},
		{"no args", two, nil, 9, ""}, {"an arg too few", two, l(5), 9, ""}, {"an arg too many", two, l(5, 6, 7), 9, ""}, {"main's args", second, l(8), 9, "halt 8|2"}, {"the first function's args", second, nil, 9, ""},
	} {
		r, e := flat(t, c.p).Run(c.args, l(1), c.fuel)
		if c.want != "" && (e != api.OK || told(r) != c.want) {
			t.Errorf("P18.1: Run with %s: %s (%d), want %s", c.what, told(r), e, c.want)
		}
		if c.want == "" && (e != api.EARG || fmt.Sprint(r) != fmt.Sprint(api.Run{})) {
			t.Errorf("P18.1: Run with %s: %s (%d)", c.what, told(r), e)
		}
	}
}

// TestRuns has programs written out: labels and jumps take a step each, and leak nothing.
func TestRuns(t *testing.T) {
	sum := function(1, to(1, constant(16, 0)), test(7, 0, 2, 4), to(3, rtl.Instr{Op: rtl.Bin, Sub: api.Add, A: 16, B: 7, D: 16}), to(1, fixed(api.Add, 7, -1, 7)), to(5, move(16, 0)), leave())
	memory := framed(16, function(1, row(rtl.Instr{Op: rtl.Frame, D: 3, K: 8}, rtl.Instr{Op: rtl.Store, Sub: 8, A: 3, B: 7, K: -8}, rtl.Instr{Op: rtl.Load, Sub: 8, A: 3, K: -8, D: 1}, rtl.Instr{Op: rtl.Global, D: 5, K: 4}, rtl.Instr{Op: rtl.Load, Sub: 4, A: 5, D: 2}, rtl.Instr{Op: rtl.Bin, Sub: api.Add, A: 1, B: 2}, leave())...))
	for _, c := range []struct {
		what        string
		p           rtl.Prog
		args, world []int64
		want        string
	}{
		{"a sum", program(sum), l(3), nil, "halt 6|branch1,0 branch1,0 branch1,0 branch0,0 21"},
		{"a sum of nothing", program(sum), l(0), nil, "halt 0|branch0,0 6"},
		{"memory", program(memory), l(-9), nil, "halt -9|addr3,0 addr3,0 addr1,4 7"},
		{"a division", program(function(2, row(rtl.Instr{Op: rtl.Bin, Sub: api.Div, A: 7, B: 6}, leave())...)), l(-7, 2), nil, "halt -3|divide-7,2 2"},
		{"a division by 0", program(function(2, row(rtl.Instr{Op: rtl.Bin, Sub: api.Mod, A: 7, B: 6}, leave())...)), l(-7, 0), nil, "stuck|divide-7,0 1"},
		{"in and out", program(function(0, row(input(0), output(0), input(0), output(0), leave())...)), nil, l(7), "in 7|out 7|in 0|out 0|halt 0|5"},
		{"out of no Int", program(function(0, row(output(0), leave())...)), nil, nil, "stuck|1"},
		{"an answer that is none", program(function(1, leave())), l(1), nil, "stuck|1"},
		{"an answer that is a pointer", program(function(0, row(rtl.Instr{Op: rtl.Global}, leave())...)), nil, nil, "stuck|2"},
		{"a branch of Undef", program(function(0, test(0, 1, 0, 0))), nil, nil, "stuck|2"},
		{"a Nop for ever", program(function(0, nothing(0))), nil, nil, "fuel|1000000"},
	} {
		does(t, c.what, c.p, c.args, c.world, c.want)
	}
}

// filled gives all locations below 20 that may be named a number: 100 and its own.
func filled() []rtl.Instr {
	var code []rtl.Instr
	for _, loc := range nameable(20) {
		code = append(code, constant(loc, int64(100+loc)))
	}
	return code
}

// TestCalls: in a callee all is Undef but the parameters; behind a call all is that is not kept, but the answer.
func TestCalls(t *testing.T) {
	const fills = 17
	for params := range 7 {
		for _, loc := range nameable(20) {
			what := fmt.Sprintf("location %d, %d parameters", loc, params)
			reads := function(params, row(move(loc, 0), leave())...)
			spoils := function(params, row(append(filled(), constant(0, 7), leave())...)...)
			inside := function(0, row(slices.Concat(filled(), []rtl.Instr{call(1, params), leave()})...)...)
			end := "stuck"
			if slices.Contains(order[:params], loc) {
				end = fmt.Sprintf("halt %d", 100+loc)
			}
			does(t, what, program(inside, reads), nil, nil, fmt.Sprintf("%s|call1,0 %d", end, fills+1+2+1))
			if params == 0 && loc == 0 {
				continue
			}
			behind := function(0, row(slices.Concat(filled(), []rtl.Instr{call(1, params), move(loc, 0), leave()})...)...)
			end = "stuck"
			if loc == 0 {
				end = "halt 7"
			} else if loc >= 16 || slices.Contains(kept, loc) {
				end = fmt.Sprintf("halt %d", 100+loc)
			}
			does(t, what+", behind", program(behind, spoils), nil, nil, fmt.Sprintf("%s|call1,0 %d", end, fills+1+fills+2+2))
			if slices.Contains(order[:params], loc) {
				does(t, what+" of main", program(reads), l(200, 201, 202, 203, 204, 205)[:params], nil, fmt.Sprintf("halt %d|2", 200+slices.Index(order, loc)))
			}
		}
	}
}

// TestDeepCalls: 20000 calls may be within one another, main's too, and no more; a call that has ended is none of them.
func TestDeepCalls(t *testing.T) {
	// f calls itself, so often as its parameter says, and shows how it comes back.
	f := function(1, test(7, 0, 1, 4), to(2, fixed(api.Sub, 7, 1, 7)), to(3, call(0, 1)), leave(), to(3, constant(0, 9)))
	p := rtl.Prog{Funcs: []rtl.Func{f}}
	made := flat(t, p)
	for _, c := range []struct {
		depth int64
		want  string
	}{{0, "halt 9"}, {5, "halt 9"}, {19999, "halt 9"}, {20000, "stuck"}, {30000, "stuck"}} {
		r, e := made.Run(l(c.depth), nil, 1000000)
		above, _ := ltl.Run(p, l(c.depth), nil, 1000000)
		if end := strings.TrimSuffix(trace.Text(r), "\n"); e != api.OK || end != c.want || !trace.Leaks(r, above) {
			t.Errorf("P18.1: %d calls within one another: %s (%d), want %s; %d leaks, and as graphs %d", c.depth, end, e, c.want, len(r.Leaks), len(above.Leaks))
		}
	}
	// One after the other there may be more; each has a block, and 100000 there may be in all, the globals', and main's too.
	loop := rtl.Prog{Globals: []int{8, 0}, Funcs: []rtl.Func{
		function(1, to(1, move(7, 3)), test(3, 0, 2, 4), to(3, call(1, 0)), to(1, fixed(api.Sub, 3, 1, 3)), to(5, move(3, 0)), leave()),
		function(0, row(constant(0, 1), leave())...),
	}}
	made = flat(t, loop)
	for times, want := range map[int64]string{30000: "halt 0", 99997: "halt 0", 99998: "stuck"} {
		r, e := made.Run(l(times), nil, 10000000)
		above, _ := ltl.Run(loop, l(times), nil, 10000000)
		if end := strings.TrimSuffix(trace.Text(r), "\n"); e != api.OK || end != want || !trace.Same(above, r) || !trace.Leaks(above, r) {
			t.Errorf("P18.1: %d calls after one another: %s (%d), want %s", times, end, e, want)
		}
	}
}

// TestAtOnce: one program may be run by several at once.
func TestAtOnce(t *testing.T) {
	made := flat(t, program(function(1, to(1, constant(16, 0)), test(7, 0, 2, 4), to(3, rtl.Instr{Op: rtl.Bin, Sub: api.Add, A: 16, B: 7, D: 16}), to(1, fixed(api.Add, 7, -1, 7)), to(5, move(16, 0)), leave())))
	done := make(chan bool)
	for n := range int64(8) {
		go func() {
			r, e := made.Run(l(n*100), nil, 100000)
			done <- e == api.OK && r.Exit == n*100*(n*100+1)/2
		}()
	}
	for range 8 {
		if !<-done {
			t.Errorf("R5: at once")
		}
	}
}
