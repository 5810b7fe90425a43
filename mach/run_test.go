package mach_test

import (
	"fmt"
	"slices"
	"strings"
	"testing"

	"plumbob/api"
	"plumbob/rtl"
	"plumbob/trace"
)

// ended runs a program and tells its run. It asks that it goes on alike with each fuel (of a long one, with some), till it ends, and that the rows' does the same, and leaks the same but for words.
func ended(t *testing.T, what string, p rtl.Prog, args, world []int64) api.Run {
	t.Helper()
	rows := flat(t, p)
	made := framedOf(t, rows)
	const most = 1000000
	r, e := made.Run(args, world, most)
	if e != api.OK {
		t.Fatalf("P19.1: %s: %d", what, e)
	}
	for fuel := 0; fuel < r.Steps && fuel < most; fuel += 1 + fuel/100 {
		part, e := made.Run(args, world, fuel)
		if e != api.OK || part.Kind != api.Fuel || part.Exit != 0 || part.Steps != fuel || !trace.Prefix(part.Events, r.Events) || !slices.Equal(part.Leaks, r.Leaks[:min(len(part.Leaks), len(r.Leaks))]) {
			t.Errorf("P19.1: %s, with fuel %d: %s (%d), not as %s begins", what, fuel, told(part), e, told(r))
		}
	}
	if exact, _ := made.Run(args, world, r.Steps); told(exact) != told(r) {
		t.Errorf("P19.1: %s, with fuel %d: %s, want %s", what, r.Steps, told(exact), told(r))
	}
	above, _ := rows.Run(args, world, most)
	if !trace.Same(above, r) || r.Kind != api.Fuel && !slices.Equal(own(p, r.Leaks), above.Leaks) || r.Kind == api.Halt && r.Steps > 20*above.Steps+100 {
		t.Errorf("P19.1: %s: %s, and as rows %s", what, told(r), told(above))
	}
	return r
}

// does asks what a run comes to: events, end, leaks, steps.
func does(t *testing.T, what string, p rtl.Prog, args, world []int64, want string) {
	t.Helper()
	if r := ended(t, what, p, args, world); told(r) != want {
		t.Errorf("P19.1: %s: %s, want %s", what, told(r), want)
	}
}

// ends asks its events and its end.
func ends(t *testing.T, what string, p rtl.Prog, args, world []int64, want string) {
	t.Helper()
	if r := ended(t, what, p, args, world); strings.ReplaceAll(trace.Text(r), "\n", "|") != want {
		t.Errorf("P19.1: %s: %s, want %s", what, told(r), want)
	}
}

// TestRunRefused has args and fuel at their edges.
func TestRunRefused(t *testing.T) {
	two := program(function(2, row(move(6, 0), leave())...))
	second := rtl.Prog{Main: 1, Funcs: []rtl.Func{function(0, leave()), function(1, row(move(7, 0), leave())...)}}
	for _, c := range []struct {
		what string
		p    rtl.Prog
		args []int64
		fuel int
		want string
	}{
		{"the most fuel", two, l(5, 6), 10000000, "halt 6|2"}, {"fuel 2", two, l(lowest, highest), 2, "halt 9223372036854775807|2"}, {"fuel 1", two, l(5, 6), 1, "fuel|1"}, {"no fuel", two, l(5, 6), 0, "fuel|0"},
		{"fuel -1", two, l(5, 6), -1, ""}, {"the least fuel", two, l(5, 6), lowest, ""}, {"fuel 10000001", two, l(5, 6), 10000001, ""}, {"all fuel", two, l(5, 6), highest, ""},
		{"no args", two, nil, 9, ""}, {"an arg too few", two, l(5), 9, ""}, {"an arg too many", two, l(5, 6, 7), 9, ""}, {"main's args", second, l(8), 9, "halt 8|2"}, {"the first function's args", second, nil, 9, ""},
	} {
		rows := flat(t, c.p)
		r, e := framedOf(t, rows).Run(c.args, l(1), c.fuel)
		if c.want != "" && (e != api.OK || told(r) != c.want) {
			t.Errorf("P19.1: Run with %s: %s (%d), want %s", c.what, told(r), e, c.want)
		}
		if c.want == "" && (e != api.EARG || fmt.Sprint(r) != fmt.Sprint(api.Run{})) {
			t.Errorf("P19.1: Run with %s: %s (%d)", c.what, told(r), e)
		}
		if _, above := rows.Run(c.args, l(1), c.fuel); above != e {
			t.Errorf("P19.1: Run with %s: %d, and as rows %d", c.what, e, above)
		}
	}
}

// TestArguments has each number of them: they stand where chapter 16 says, in main and in what it calls.
func TestArguments(t *testing.T) {
	for params := range 7 {
		given := l(1, 20, 300, 4000, 50000, 600000)[:params]
		code, want := []rtl.Instr{}, ""
		for n, loc := range order[:params] {
			code = append(code, output(loc))
			want += fmt.Sprintf("out %d|", given[n])
		}
		code = append(code, constant(0, 9), leave())
		taken := function(params, row(code...)...)
		ends(t, fmt.Sprint(params, " arguments"), program(taken), given, nil, want+"halt 9|")
		// What is handed on comes from slots, in which it is turned round.
		code = nil
		for n, loc := range order[:params] {
			code = append(code, move(loc, 16+n))
		}
		for n, loc := range order[:params] {
			code = append(code, move(15+params-n, loc))
		}
		turned := function(params, row(append(code, call(1, params), leave())...)...)
		turned.Regs = 22
		backwards := slices.Clone(given)
		slices.Reverse(backwards)
		want = ""
		for _, n := range backwards {
			want += fmt.Sprintf("out %d|", n)
		}
		ends(t, fmt.Sprint(params, " arguments, handed on"), program(turned, taken), given, nil, want+"halt 9|")
	}
}

// TestRuns has programs written out: each access of a word leaks, and a copy of a register is a step.
func TestRuns(t *testing.T) {
	sum := function(1, to(1, constant(16, 0)), test(7, 0, 2, 4), to(3, both(api.Add, 16, 7, 16)), to(1, fixed(api.Add, 7, -1, 7)), to(5, move(16, 0)), leave())
	memory := framed(16, function(1, row(home(8, 3), store(8, 3, -8, 7), load(8, 3, -8, 1), global(0, 4, 17), load(4, 17, 0, 2), both(api.Add, 1, 2, 0), leave())...))
	for _, c := range []struct {
		what        string
		p           rtl.Prog
		args, world []int64
		want        string
	}{
		{"a sum", program(sum), l(1), nil, "halt 1|addr3,0 branch1,0 addr3,0 addr3,0 branch0,0 addr3,0 11"},
		{"memory", program(memory), l(-9), nil, "halt -9|addr3,24 addr3,0 addr3,0 addr3,16 addr3,16 addr1,4 addr3,24 9"},
		{"a division of slots", program(function(2, row(move(7, 17), move(6, 16), both(api.Div, 17, 16, 18), move(18, 0), leave())...)), l(-7, 2), nil, "halt -3|addr3,8 addr3,0 addr3,8 addr3,0 divide-7,2 addr3,16 addr3,16 5"},
		{"a division by 0", program(function(2, row(both(api.Mod, 7, 6, 16), leave())...)), l(-7, 0), nil, "stuck|divide-7,0 2"},
		{"a slot as an address", program(function(1, row(global(0, 8, 16), move(7, 17), store(8, 16, -8, 17), load(8, 16, -8, 17), move(17, 0), leave())...)), l(5), nil, "halt 5|addr3,0 addr3,8 addr3,0 addr3,8 addr1,0 addr3,0 addr1,0 addr3,8 addr3,8 6"},
		{"in and out of slots", program(function(0, row(input(16), output(16), fixed(api.Mul, 16, 3, 16), rtl.Instr{Op: rtl.Un, Sub: api.Neg, A: 16, D: 0}, leave())...)), nil, l(7), "in 7|out 7|halt -21|addr3,0 addr3,0 addr3,0 addr3,0 addr3,0 5"},
		{"a choice of slots", program(function(2, to(1, move(7, 16)), to(2, move(6, 17)), rtl.Instr{Op: rtl.Cond, Sub: api.Lt, A: 16, B: 17, S: 3, T: 4}, to(5, constant(0, 1)), to(5, constant(0, 2)), leave())), l(3, 4), nil, "halt 1|addr3,0 addr3,8 addr3,0 addr3,8 branch1,0 6"},
		{"a call", program(function(0, row(input(3), call(1, 0), both(api.Add, 0, 3, 0), leave())...), function(0, row(constant(3, 30), move(3, 0), leave())...)), nil, l(5), "in 5|halt 35|addr3,0 call1,0 addr4,0 addr4,0 addr3,0 11"},
		{"a block of a call that has ended", program(function(0, row(call(1, 0), load(8, 0, 0, 0), leave())...), framed(8, function(0, row(home(0, 0), constant(1, 5), store(8, 0, 0, 1), leave())...))), nil, nil, "stuck|call1,0 addr4,0 addr4,0 6"},
		{"out of no Int", program(function(0, row(output(0), leave())...)), nil, nil, "stuck|2"},
		{"an answer that is none", program(function(1, leave())), l(1), nil, "stuck|2"},
		{"an answer that is a pointer", program(function(0, row(global(0, 0, 0), leave())...)), nil, nil, "stuck|2"},
		{"a branch of no value", program(function(1, test(16, 1, 0, 0))), l(1), nil, "stuck|addr3,0 2"},
		{"a Nop for ever", program(function(0, nothing(0))), nil, nil, "fuel|1000000"},
	} {
		does(t, c.what, c.p, c.args, c.world, c.want)
	}
}

// filled gives all locations below some number that may be named a number: its own, and more.
func filled(below int, more int64) []rtl.Instr {
	var code []rtl.Instr
	for _, loc := range nameable(below) {
		code = append(code, constant(loc, more+int64(loc)))
	}
	return code
}

// pointed gives them pointers.
func pointed(below int) []rtl.Instr {
	var code []rtl.Instr
	for _, loc := range nameable(below) {
		code = append(code, global(0, int64(loc%16), loc))
	}
	return code
}

// TestNoValue: in a callee nothing has a value but the parameters; behind a call nothing has that is not kept, but the answer; whatever another call has left there.
func TestNoValue(t *testing.T) {
	for params := range 7 {
		for _, loc := range nameable(20) {
			what := fmt.Sprintf("location %d, %d parameters", loc, params)
			isGiven := slices.Contains(order[:params], loc)
			reads := function(params, row(move(loc, 0), leave())...)
			inside := function(0, row(append(filled(20, 100), call(1, params), leave())...)...)
			end := "stuck|"
			if isGiven {
				end = fmt.Sprintf("halt %d|", 100+loc)
			}
			ends(t, what, program(inside, reads), nil, nil, end)
			if !isGiven {
				// 4 bytes of what has no value can be stored, and are unknown.
				part := function(params, row(global(0, 8, 21), store(4, 21, 0, loc), constant(0, 7), leave())...)
				part.Regs = 22
				ends(t, what+", stored", program(function(0, row(append(pointed(20), call(1, params), leave())...)...), part), nil, nil, "halt 7|")
			}
			isKept := loc >= 16 || slices.Contains(kept, loc)
			if loc == 0 || params > 0 && isKept {
				continue
			}
			spoils := function(params, row(append(filled(20, 200), constant(0, 7), leave())...)...)
			end = "stuck|"
			if isKept {
				end = fmt.Sprintf("halt %d|", 100+loc)
			}
			behind := function(0, row(append(filled(20, 100), call(1, params), move(loc, 0), leave())...)...)
			ends(t, what+", behind", program(behind, spoils), nil, nil, end)
			points := function(params, row(append(pointed(20), constant(0, 7), leave())...)...)
			if !isKept {
				to := global(0, 8, 16)
				behind = function(0, row(append(filled(16, 100), to, call(1, params), store(4, 16, 0, loc), load(4, 16, 4, 0), leave())...)...)
				ends(t, what+", stored behind", program(behind, points), nil, nil, "halt 0|")
			}
		}
	}
	// The answer itself may have none.
	half := function(0, row(append(pointed(20), call(1, 0), global(0, 8, 3), store(4, 3, 0, 0), load(4, 3, 4, 0), leave())...)...)
	ends(t, "an answer without a value", program(half, function(0, row(input(9), leave())...)), nil, l(4), "in 4|halt 0|")
	// A byte that is unknown stays so.
	unknown := framed(8, function(0, row(append(filled(20, 5), home(0, 3), call(1, 0), load(4, 3, 0, 1), home(4, 3), store(4, 3, 0, 1), load(4, 3, 0, 0), leave())...)...))
	ends(t, "unknown bytes", program(unknown, framed(8, function(0, leave()))), nil, nil, "stuck|")
}

// TestKept has callers whose kept registers and slots stay behind calls that write all of them, within one another and again and again.
func TestKept(t *testing.T) {
	const below = 40
	var stay []int
	for _, loc := range nameable(below) {
		if loc >= 16 || slices.Contains(kept, loc) {
			stay = append(stay, loc)
		}
	}
	var shown []rtl.Instr
	for _, loc := range stay {
		shown = append(shown, output(loc))
	}
	// each of the levels fills all that there is, calls the next one, and shows what has stayed.
	level := func(number int, inner ...rtl.Instr) rtl.Func {
		f := function(0, row(slices.Concat(filled(below, int64(1000*number)), inner, shown, []rtl.Instr{constant(0, int64(number)), leave()})...)...)
		f.Regs = below
		return f
	}
	shows := func(number int) string {
		text := ""
		for _, loc := range stay {
			text += fmt.Sprintf("out %d|", 1000*number+loc)
		}
		return text
	}
	nested := program(level(0, call(1, 0)), level(1, call(2, 0), call(3, 0)), level(2, call(3, 0)), level(3))
	ends(t, "within one another", nested, nil, nil, shows(3)+shows(2)+shows(3)+shows(1)+shows(0)+"halt 0|")
	// It calls itself as often as it is told, and each call has its own: in registers, in slots, in its block.
	var deep []rtl.Instr
	for _, loc := range stay {
		deep = append(deep, fixed(api.Mul, 7, int64(loc), loc))
	}
	deep = append(deep, home(0, 1), store(1, 1, 0, 7), store(1, 1, 24, 7), fixed(api.Add, 7, -1, 7), call(0, 1), home(0, 1), load(1, 1, 0, 2), output(2), load(1, 1, 24, 2), output(2))
	for _, loc := range stay {
		deep = append(deep, fixed(api.Div, loc, int64(loc), 2), output(2))
	}
	code := []rtl.Instr{test(7, 0, 2, 1), to(len(deep)+2, constant(0, 0))}
	for n, i := range deep {
		code = append(code, to(n+3, i))
	}
	f := framed(25, function(1, append(code, leave())...))
	f.Regs = below
	want := ""
	for n := range 5 {
		want += strings.Repeat(fmt.Sprintf("out %d|", n+1), 2+len(stay))
	}
	ends(t, "itself", program(f), l(5), nil, want+"halt 0|")
}

// TestBlocks has blocks that are written at their first and their last byte, by their own call and by another, which has a block, slots and registers as well: all stays what it is.
func TestBlocks(t *testing.T) {
	for _, size := range []int{1, 2, 7, 8, 9, 15, 16, 17, 24, 31, 1000, 65480} {
		last := int64(size - 1)
		// The callee turns the sign of both bytes that it is pointed to, and has its own.
		callee := framed(size, function(2, row(constant(3, 31), constant(16, 32), home(0, 5), constant(1, 33), store(1, 5, 0, 1), store(1, 5, last, 1), load(1, 7, 0, 1), rtl.Instr{Op: rtl.Un, Sub: api.Neg, A: 1, D: 17}, store(1, 7, 0, 17), load(1, 6, 0, 1), rtl.Instr{Op: rtl.Un, Sub: api.Neg, A: 1, D: 1}, store(1, 6, 0, 1),
			output(3), output(16), load(1, 5, last, 0), leave())...))
		caller := framed(size, function(2, row(move(7, 3), move(6, 16), constant(17, 22), constant(12, 23), home(0, 7), store(1, 7, 0, 3), home(last, 6), store(1, 6, 0, 16), call(1, 2), output(0), home(last, 13), load(1, 13, -last, 1), output(1), load(1, 13, 0, 1), output(1), output(3), output(16), output(17), output(12), leave())...))
		p := program(caller, callee)
		want := "out 31|out 32|out 33|out -4|out -5|out 4|out 5|out 22|out 23|halt 33|"
		if size == 1 {
			want = "out 31|out 32|out 33|out 5|out 5|out 4|out 5|out 22|out 23|halt 33|"
		}
		ends(t, fmt.Sprint("a block of ", size, " bytes"), p, l(4, 5), nil, want)
	}
	// Pointers to frames of two calls are unlike, of no bytes, too; those to one are alike.
	given := framed(0, function(1, row(home(0, 6), both(api.Eq, 7, 6, 0), leave())...))
	both := framed(0, function(0, row(home(0, 7), call(1, 1), output(0), home(0, 6), home(0, 3), both(api.Eq, 6, 3, 0), leave())...))
	ends(t, "blocks of no bytes", program(both, given), nil, nil, "out 0|halt 1|")
}

// TestDeepCalls: 20000 calls may be within one another, main's too, and no more; a call that has ended is none of them.
func TestDeepCalls(t *testing.T) {
	// f calls itself, so often as its parameter says, and adds up what it has kept.
	f := function(1, test(7, 0, 1, 6), to(2, move(7, 3)), to(3, fixed(api.Sub, 7, 1, 7)), to(4, call(0, 1)), to(5, both(api.Add, 0, 3, 0)), leave(), to(5, constant(0, 9)))
	p := rtl.Prog{Funcs: []rtl.Func{f}}
	rows := flat(t, p)
	made := framedOf(t, rows)
	for depth, want := range map[int64]string{0: "halt 9", 5: "halt 24", 19999: "halt 199990009", 20000: "stuck", 30000: "stuck"} {
		r, e := made.Run(l(depth), nil, 10000000)
		above, _ := rows.Run(l(depth), nil, 10000000)
		if end := strings.TrimSuffix(trace.Text(r), "\n"); e != api.OK || end != want || !trace.Same(r, above) || !slices.Equal(own(p, r.Leaks), above.Leaks) {
			t.Errorf("P19.1: %d calls within one another: %s (%d), want %s; in rows %s", depth, end, e, want, trace.Text(above))
		}
	}
	// One after the other there may be more.
	loop := rtl.Prog{Globals: []int{8, 0}, Funcs: []rtl.Func{
		function(1, to(1, move(7, 3)), test(3, 0, 2, 4), to(3, call(1, 0)), to(1, fixed(api.Sub, 3, 1, 3)), to(5, move(3, 0)), leave()),
		function(0, row(constant(0, 1), leave())...),
	}}
	rows = flat(t, loop)
	made = framedOf(t, rows)
	for times, want := range map[int64]string{30000: "halt 0", 99997: "halt 0", 99998: "stuck"} {
		r, e := made.Run(l(times), nil, 10000000)
		above, _ := rows.Run(l(times), nil, 10000000)
		if end := strings.TrimSuffix(trace.Text(r), "\n"); e != api.OK || end != want || !trace.Same(above, r) || !slices.Equal(own(loop, r.Leaks), above.Leaks) {
			t.Errorf("P19.1: %d calls after one another: %s (%d), want %s", times, end, e, want)
		}
	}
}

// TestSteps: what calls cost is within the fuel that there is, also where each step is a call that saves all registers, and gives on what has no value.
func TestSteps(t *testing.T) {
	var behind []rtl.Instr
	for _, r := range kept {
		behind = append(behind, output(r))
	}
	p := rtl.Prog{Funcs: []rtl.Func{
		function(0, row(slices.Concat([]rtl.Instr{call(1, 6)}, behind, []rtl.Instr{leave()})...)...),
		function(6, row(slices.Concat([]rtl.Instr{call(0, 0)}, behind, []rtl.Instr{leave()})...)...),
	}}
	rows := flat(t, p)
	made := framedOf(t, rows)
	for fuel := range 500 {
		above, _ := rows.Run(nil, nil, fuel)
		below, e := made.Run(nil, nil, 20*fuel+100)
		if e != api.OK || len(above.Leaks) != fuel || len(own(p, below.Leaks)) < fuel {
			t.Fatalf("P19.1: with fuel %d, and with %d: %d calls, in rows %d (%d): %s", fuel, below.Steps, len(own(p, below.Leaks)), len(above.Leaks), e, made.Text())
		}
	}
}

// TestAtOnce: one program may be run by several at once.
func TestAtOnce(t *testing.T) {
	made := stacked(t, program(function(1, to(1, constant(16, 0)), test(7, 0, 2, 4), to(3, both(api.Add, 16, 7, 16)), to(1, fixed(api.Add, 7, -1, 7)), to(5, move(16, 0)), leave())))
	done := make(chan bool)
	for n := range int64(8) {
		go func() {
			r, e := made.Run(l(n*100), nil, 100000)
			done <- e == api.OK && r.Exit == n*100*(n*100+1)/2
		}()
	}
	for range 8 {
		if !<-done {
			t.Errorf("R5: at once")
		}
	}
}
