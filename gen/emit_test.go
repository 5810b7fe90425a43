package gen_test

import (
	"fmt"
	"slices"
	"strings"
	"testing"
	"time"

	"plumbob/api"
	"plumbob/asm"
	"plumbob/gen"
	"plumbob/rtl"
	"plumbob/trace"
)

// TestCode has functions' code written out.
func TestCode(t *testing.T) {
	for _, c := range []struct {
		what, want string
		f          rtl.Func
	}{
		{"a constant", "movk R=rax K=5; ret", function(0, row(constant(0, 5), leave())...)},
		{"a block", "enter K=16; lea R=rax M=rsp K=8; movk R=rax K=1; leave K=16; ret", framed(8, function(0, row(home(8, 0), constant(0, 1), leave())...))},
		{"a block of all bytes", "enter K=65536; movk R=rax K=1; leave K=65536; ret", framed(65536, function(0, row(constant(0, 1), leave())...))},
		{"a block of no bytes", "movk R=rax K=1; ret", framed(0, function(0, row(constant(0, 1), leave())...))},
		{"a register that is kept", "enter K=16; store Sub=8 R=rbx M=rsp K=0; movr R=rbx M=rdi; movr R=rax M=rbx; load Sub=8 R=rbx M=rsp K=0; leave K=16; ret", function(1, row(move(7, 3), move(3, 0), leave())...)},
		{"one that has no value", "movk R=rcx K=0; movr R=rax M=rcx; ret", function(0, row(move(1, 0), leave())...)},
		{"a copy to itself", "movk R=rax K=0; ret", function(0, row(move(0, 0), move(0, 0), leave())...)},
		{"words", "enter K=16; store Sub=8 R=rdi M=rsp K=0; load Sub=8 R=r10 M=rsp K=0; store Sub=8 R=r10 M=rsp K=8; load Sub=8 R=rax M=rsp K=8; leave K=16; ret", function(1, row(move(7, 16), move(16, 17), move(17, 0), leave())...)},
		{"a sum", "movr R=rax M=rdi; alu Sub=add R=rax M=rsi; ret", function(2, row(both(api.Add, 7, 6, 0), leave())...)},
		{"a sum into its second operand", "alu Sub=add R=rsi M=rdi; movr R=rax M=rsi; ret", function(2, row(both(api.Add, 7, 6, 6), move(6, 0), leave())...)},
		{"a difference into it", "movr R=r10 M=rdi; alu Sub=sub R=r10 M=rsi; movr R=rsi M=r10; movr R=rax M=rsi; ret", function(2, row(both(api.Sub, 7, 6, 6), move(6, 0), leave())...)},
		{"a sum with a constant", "lea R=rax M=rdi K=-3; aluk Sub=add R=rax K=4; ret", function(1, row(fixed(api.Add, 7, -3, 0), fixed(api.Add, 0, 4, 0), leave())...)},
		{"one of more than 32 bits", "movr R=rax M=rdi; movk R=r11 K=2147483648; alu Sub=mul R=rax M=r11; ret", function(1, row(fixed(api.Mul, 7, 1<<31, 0), leave())...)},
		{"a comparison", "cmpk R=rdi K=-2147483648; set Cc=le R=rax; ret", function(1, row(fixed(api.Le, 7, -1<<31, 0), leave())...)},
		{"a shift", "movr R=rax M=rdi; movr R=r11 M=rcx; movr R=rcx M=rsi; shiftc Sub=shl R=rax; movr R=rcx M=r11; ret", function(2, row(both(api.Shl, 7, 6, 0), leave())...)},
		{"a shift by rcx", "movr R=rax M=rdi; shiftc Sub=shr R=rax; ret", function(4, row(both(api.Shr, 7, 1, 0), leave())...)},
		{"a shift by a constant", "movr R=rax M=rdi; shift Sub=shr R=rax K=63; ret", function(4, row(fixed(api.Shr, 7, 63, 0), leave())...)},
		{"a quotient", "movr R=r11 M=rdx; movr R=rax M=rdi; cqo; idiv M=rsi; movr R=rdx M=r11; ret", function(2, row(both(api.Div, 7, 6, 0), leave())...)},
		{"a remainder", "movr R=r10 M=rax; movr R=rax M=rdi; cqo; idiv M=rsi; movr R=rax M=r10; movr R=rax M=rdx; ret", function(2, row(both(api.Mod, 7, 6, 2), move(2, 0), leave())...)},
		{"in and out", "ini; outi; movr R=r10 M=rax; ini; movr R=rcx M=rax; movr R=rax M=r10; movr R=r10 M=rax; movr R=rax M=rcx; outi; movr R=rax M=r10; ret", function(0, row(input(0), output(0), input(1), output(1), leave())...)},
		{"a global", "leag Sub=0 R=rax K=8; store Sub=4 R=rdi M=rax K=-4; load Sub=1 R=rax M=rax K=-4; ret", function(1, row(global(0, 8, 0), store(4, 0, -4, 7), load(1, 0, -4, 0), leave())...)},
		{"a choice", "label L=0; cmpk R=rdi K=1; jcc Cc=le L=2; movk R=rax K=1; ret; label L=2; aluk Sub=add R=rdi K=1; jmp L=0", function(1, test(7, 1, 1, 2), to(3, constant(0, 1)), to(0, fixed(api.Add, 7, 1, 7)), leave())},
		{"a call", "call Sub=1; ret", function(0, row(call(1, 0), leave())...)},
	} {
		p := program(c.f, named("g", function(0, row(constant(0, 1), leave())...)))
		if got := body(emitted(t, stacked(t, p))); got != c.want {
			t.Errorf("P21.1: %s: %s, want %s", c.what, got, c.want)
		}
	}
}

// does asks events and end of a program in code, and that it leaks what it leaks with frames.
func does(t *testing.T, what string, p rtl.Prog, args, world []int64, want string) {
	t.Helper()
	framed := stacked(t, p)
	made := emitted(t, framed)
	r, e := asm.Run(made, args, world, 10000000, all)
	above, f := framed.Run(args, world, 400000)
	upper, lower := withoutSides(above.Leaks), withoutSides(atFrames(framed, r.Leaks))
	if e != api.OK || f != api.OK || strings.ReplaceAll(trace.Text(r), "\n", "|") != want || r.Steps > 20*above.Steps+100 {
		t.Errorf("P21.1: %s: %s (%d), want %s, with frames %s", what, told(r), e, want, told(above))
	}
	if !slices.Equal(upper, lower) {
		t.Errorf("P21.1: %s leaks %s, with frames %s", what, told(r), told(above))
	}
}

// TestArguments has each number of them, in main, which is any function, and in what it calls.
func TestArguments(t *testing.T) {
	for params := range 7 {
		given := l(1, 20, 300, 4000, 50000, 600000)[:params]
		code, want := []rtl.Instr{}, ""
		for n, loc := range order[:params] {
			code = append(code, output(loc))
			want += fmt.Sprintf("out %d|", given[n])
		}
		takes := function(params, row(append(code, constant(0, 9), leave())...)...)
		does(t, fmt.Sprint(params, " arguments"), program(takes), given, nil, want+"halt 9|")
		hands := function(params, row(call(0, params), call(0, 0), leave())...)
		if params > 0 {
			hands = function(params, row(call(0, params), leave())...)
		}
		p := program(takes, hands, function((params+1)%7, leave()))
		p.Main = 1
		if params == 0 {
			want = ""
		}
		does(t, fmt.Sprint(params, " arguments, handed on"), p, given, nil, want+"halt 9|")
	}
}

// TestCalls has callers that keep registers, words and blocks over calls that have all of these, too.
func TestCalls(t *testing.T) {
	// It adds up all that it has kept: 7 in a register, in a word, in its block, for each number from its argument down to 0.
	inner := []rtl.Instr{move(7, 3), move(7, 16), home(0, 1), store(8, 1, 0, 7), fixed(api.Sub, 7, 1, 7), call(0, 1), both(api.Add, 0, 3, 0), both(api.Add, 0, 16, 0), home(0, 1), load(8, 1, 0, 1), both(api.Add, 0, 1, 0), output(0)}
	code := []rtl.Instr{test(7, 0, 2, 1), to(len(inner)+2, constant(0, 0))}
	for n, i := range inner {
		code = append(code, to(n+3, i))
	}
	p := program(framed(8, function(1, append(code, leave())...)))
	does(t, "within one another", p, l(4), nil, "out 3|out 9|out 18|out 30|halt 30|")
	framed := stacked(t, p)
	made := emitted(t, framed)
	bytes, _ := framed.Frame("f")
	for depth := range int64(5) {
		if n, e := asm.Peak(made, l(depth), nil, 1000); e != api.OK || n != (bytes+8)*int(depth+1) {
			t.Errorf("P21.1: %d calls within one another, of %d bytes each: Peak %d (%d)", depth+1, bytes, n, e)
		}
	}
	// As many may be within one another as with frames.
	for depth, want := range map[int64]string{19999: "halt 599970000\n", 0: "halt 0\n"} {
		above, _ := framed.Run(l(depth), nil, 10000000)
		below, e := asm.Run(made, l(depth), nil, 100000000, all)
		if e != api.OK || !trace.Same(above, below) || !strings.HasSuffix(trace.Text(below), want) {
			t.Errorf("P21.1: %d calls within one another: Exit %d (%d), with frames %d", depth, below.Exit, e, above.Exit)
		}
	}
}

// TestNoValue: what another call left in registers is not met, where they have no value with frames; but as a number, of which 4 bytes can be stored.
func TestNoValue(t *testing.T) {
	var points, fills []rtl.Instr
	for _, loc := range nameable(16) {
		points = append(points, global(0, int64(loc), loc))
		fills = append(fills, constant(loc, int64(loc)))
	}
	for _, loc := range nameable(16) {
		for params := range 7 {
			if slices.Contains(order[:params], loc) {
				continue
			}
			part := function(params, row(global(0, 8, 16), store(4, 16, 0, loc), constant(0, 7), leave())...)
			part.Regs = 17
			does(t, fmt.Sprintf("register %d, %d parameters", loc, params), program(function(0, row(append(points, call(1, params), leave())...)...), part), nil, nil, "halt 7|")
		}
		if slices.Contains(kept, loc) || loc == 0 {
			continue
		}
		behind := function(0, row(append(fills, call(1, 0), global(0, 8, 16), store(4, 16, 0, loc), constant(0, 7), leave())...)...)
		behind.Regs = 17
		does(t, fmt.Sprint("register ", loc, " behind a call"), program(behind, function(0, row(append(points, constant(0, 7), leave())...)...)), nil, nil, "halt 7|")
	}
}

// TestLoops has ways that go back, to a function's beginning too, where its frame is there already.
func TestLoops(t *testing.T) {
	sum := function(1, to(1, constant(16, 0)), test(7, 0, 2, 4), to(3, both(api.Add, 16, 7, 16)), to(1, fixed(api.Add, 7, -1, 7)), to(5, move(16, 0)), leave())
	does(t, "a sum", program(sum), l(100), nil, "halt 5050|")
	back := framed(8, function(0, to(1, input(3)), test(3, 0, 0, 2), to(3, move(3, 0)), leave()))
	does(t, "back to the beginning", program(back), nil, l(3, 2, 1, 0, 5), "in 3|in 2|in 1|in 0|halt 0|")
	made := emitted(t, stacked(t, program(function(0, nothing(0)))))
	for _, fuel := range []int{0, 1, 1000, 100000000} {
		if r, e := asm.Run(made, nil, nil, fuel, 8); e != api.OK || r.Kind != api.Fuel || r.Steps != fuel {
			t.Errorf("P21.1: a Nop for ever, with fuel %d: %s (%d)", fuel, told(r), e)
		}
	}
	made = emitted(t, stacked(t, program(function(1, to(1, move(7, 7)), to(0, move(1, 1))))))
	if r, e := asm.Run(made, l(1), nil, 1000, all); e != api.OK || r.Kind != api.Fuel {
		t.Errorf("P21.1: copies for ever: %s (%d)", told(r), e)
	}
}

// TestNewMemory: what is answered is new each time, and nothing that is handed in is kept.
func TestNewMemory(t *testing.T) {
	p := stacked(t, program(framed(8, function(1, to(1, move(7, 16)), test(16, 0, 2, 3), to(3, call(1, 0)), leave())), function(0, row(constant(0, 1), leave())...)))
	made := emitted(t, p)
	text, above := asm.Text(made), p.Text()
	other := emitted(t, p)
	for n := range other.Funcs {
		clear(other.Funcs[n].Code[:cap(other.Funcs[n].Code)])
	}
	clear(other.Globals[:cap(other.Globals)])
	clear(other.Funcs[:cap(other.Funcs)])
	if asm.Text(made) != text || p.Text() != above || asm.Text(emitted(t, p)) != text {
		t.Errorf("R4: what is done to an answer changes another, or what it is made of")
	}
	for n := range made.Funcs {
		code := made.Funcs[n].Code
		clear(code[len(code):cap(code)])
	}
	if asm.Text(made) != text {
		t.Errorf("R4: two functions share room")
	}
}

// longest is a function of as many nodes as there may be, whose code is as long as one may be: each node has a label, and a deed that takes the most.
func longest() rtl.Func {
	const most = 5000
	code := make([]rtl.Instr, most)
	for n := range code {
		code[n] = to((n+7)%most, both(api.Div, 16+n%4984, 16+(n+1)%4984, 16+(n+2)%4984))
	}
	code[0] = test(16, 0, 1, 7)
	f := function(6, code...)
	f.Regs = most
	return f
}

// TestGreat has programs as great as they may be.
func TestGreat(t *testing.T) {
	begin := time.Now()
	p := rtl.Prog{Globals: slices.Repeat([]int{api.MaxSize}, api.MaxVars), Funcs: slices.Repeat([]rtl.Func{longest()}, api.MaxFuncs)}
	framed := stacked(t, p)
	made, e := gen.Emit(framed)
	if e != api.OK || !asm.Good(made) || len(made.Funcs[99].Code) < 49000 {
		t.Fatalf("P21.1: Emit of a great one: %d, %d instructions", e, len(made.Funcs[0].Code))
	}
	for n, f := range made.Funcs {
		if peeped := gen.Peep(f); n == 0 && !slices.Equal(peeped.Code, f.Code) {
			t.Errorf("P21.2: Peep of what Emit has made leaves something out")
		}
	}
	if took := time.Since(begin); took > 30*time.Second {
		t.Errorf("R1: great programs take %v", took)
	}
	// All stores of its slots are at bytes of its frame.
	for _, i := range made.Funcs[0].Code {
		if i.M == 4 && i.Op != asm.Enter && (i.K < 0 || i.K > int64(framed.Parts().Functions[0].Frame)-8) {
			t.Fatalf("P21.1: %+v, of a frame of %d bytes", i, framed.Parts().Functions[0].Frame)
		}
	}
}
