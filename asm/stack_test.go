package asm_test

import (
	"fmt"
	"testing"
	"time"

	"plumbob/api"
	"plumbob/asm"
)

// limited asks what a run with a limit comes to.
func limited(t *testing.T, what string, p asm.Prog, args, world []int64, fuel, limit int, want string) {
	t.Helper()
	r, e := asm.Run(p, args, world, fuel, limit)
	if e != api.OK || told(r) != want {
		t.Errorf("P20.1: %s, with fuel %d and limit %d: %.2000s (%d), want %s", what, fuel, limit, told(r), e, want)
	}
}

// peaks asks how much stack a run has.
func peaks(t *testing.T, what string, p asm.Prog, args, world []int64, fuel, want int) {
	t.Helper()
	if n, e := asm.Peak(p, args, world, fuel); n != want || e != api.OK {
		t.Errorf("P20.1: Peak of %s with fuel %d: %d (%d), want %d", what, fuel, n, e, want)
	}
}

// TestLimits has the stack at its limit and one byte below, of each that makes it more: what was done until then stays.
func TestLimits(t *testing.T) {
	five := movK(0, 5)
	main := program(row(five, ret))
	frame := program(row(in, out, enter(24), store(8, 4, 16, 0), leave(24), ret))
	nested := program(row(in, enter(16), call(1), out, call(1), leave(16), ret), row(enter(100), aluK(api.Add, 0, 1), leave(100), ret))
	for _, c := range []struct {
		what  string
		p     asm.Prog
		limit int
		want  string
	}{
		{"main's call", main, 8, "halt 5|2"}, {"main's call", main, 7, "overflow|0"}, {"main's call", main, 0, "overflow|0"}, {"main's call", main, all, "halt 5|2"},
		{"an Enter", frame, 32, "in 6|out 6|halt 6|addr3,16 6"}, {"an Enter", frame, 31, "in 6|out 6|overflow|3"}, {"an Enter", frame, 8, "in 6|out 6|overflow|3"}, {"an Enter", frame, 7, "overflow|0"},
		{"a Call", nested, 132, "in 6|out 7|halt 8|call1,0 call1,0 15"}, {"a callee's Enter", nested, 131, "in 6|overflow|call1,0 4"}, {"a callee's Enter", nested, 32, "in 6|overflow|call1,0 4"}, {"a Call", nested, 31, "in 6|overflow|call1,0 3"}, {"a Call", nested, 24, "in 6|overflow|call1,0 3"}, {"main's Enter", nested, 23, "in 6|overflow|2"}, {"main's Enter", nested, 8, "in 6|overflow|2"}, {"main's call", nested, 7, "overflow|0"},
		{"an Enter of 0 bytes", program(row(five, enter(0), leave(0), ret)), 8, "halt 5|4"}, {"one of the most bytes", program(row(five, enter(65536), leave(65536), ret)), 65544, "halt 5|4"}, {"one of the most bytes", program(row(five, enter(65536), leave(65536), ret)), 65543, "overflow|2"},
		{"frames one behind the other", program(row(five, enter(24), leave(24), enter(16), leave(16), enter(24), leave(24), ret)), 32, "halt 5|8"}, {"a greater one later", program(row(five, enter(24), leave(24), enter(32), leave(32), ret)), 39, "overflow|4"},
		{"calls one behind the other", program(row(five, call(1), call(1), call(1), ret), row(ret)), 16, "halt 5|call1,0 call1,0 call1,0 8"}, {"calls one behind the other", program(row(five, call(1), call(1), call(1), ret), row(ret)), 15, "overflow|call1,0 2"},
		{"a frame that is left ahead of a call", program(row(five, enter(24), leave(24), call(1), ret), row(enter(16), leave(16), ret)), 32, "halt 5|call1,0 8"}, {"what gets stuck ahead of that", program(row(enter(8), enter(100), ret)), 16, "stuck|2"}, {"a Leave that is none", program(row(leave(8))), 8, "stuck|1"}, {"a Ret that is none", program(row(enter(8), ret)), 16, "stuck|2"},
	} {
		limited(t, c.what, c.p, nil, l(6), 1000, c.limit, c.want)
	}
	limited(t, "main's call", main, nil, nil, 0, 7, "overflow|0")
	limited(t, "main's call", main, nil, nil, 0, 8, "fuel|0")
	limited(t, "an Enter without fuel", frame, nil, l(6), 2, 8, "in 6|out 6|fuel|2")
	limited(t, "an Enter with its fuel", frame, nil, l(6), 3, 8, "in 6|out 6|overflow|3")
	limited(t, "a Call without fuel", nested, nil, l(6), 2, 24, "in 6|fuel|2")
}

// TestRecursion counts main's parameter down, with a frame in each call: up to a limit, and beyond it.
func TestRecursion(t *testing.T) {
	down := row(enter(16), store(8, 4, 8, 7), cmpK(7, 0), jcc(api.Le, 1), aluK(api.Sub, 7, 1), call(0), load(8, 3, 4, 8), alu(api.Add, 0, 3), leave(16), ret, label(1), movK(0, 0), leave(16), ret)
	p := taking(1, program(down))
	for n := range 12 {
		r := ended(t, fmt.Sprint("recursion ", n), p, l(int64(n)), nil)
		if r.Kind != api.Halt || r.Exit != int64(n*(n+1)/2) {
			t.Errorf("P20.1: recursion %d: %s", n, told(r))
		}
		peaks(t, "recursion", p, l(int64(n)), nil, 1000, 24*(n+1))
		for limit := range 24*12 + 2 {
			r, _ := asm.Run(p, l(int64(n)), nil, 1000, limit)
			want, calls := api.Halt, n
			if limit < 24*(n+1) {
				want, calls = api.Overflow, limit/24 // each frame that is entered calls once more
			}
			found := 0
			for _, k := range r.Leaks {
				if k.Kind == api.Call {
					found++
				}
			}
			if r.Kind != want || found != calls {
				t.Errorf("P20.1: recursion %d with limit %d: %s", n, limit, told(r))
			}
		}
	}
	endless := program(row(call(0), ret))
	limited(t, "calls for ever", endless, nil, nil, 1000, 40, "overflow|call0,0 call0,0 call0,0 call0,0 call0,0 5")
	limited(t, "calls for ever", endless, nil, nil, 4, 40, "fuel|call0,0 call0,0 call0,0 call0,0 4")
	limited(t, "calls for ever", endless, nil, nil, 5, 39, "overflow|call0,0 call0,0 call0,0 call0,0 4")
}

// TestPeak has runs that end in each way, at any fuel.
func TestPeak(t *testing.T) {
	p := program(row(in, call(1), enter(40), leave(40), call(1), movK(0, 1), ret), row(enter(16), call(2), leave(16), ret), row(enter(8), leave(8), ret))
	for fuel, want := range []int{8, 8, 16, 32, 40, 48, 48, 48, 48, 48, 48, 48, 48} {
		peaks(t, "a run", p, nil, nil, fuel, want)
	}
	peaks(t, "a run that halts", p, nil, nil, 100000000, 48)
	peaks(t, "a run that is stuck", program(row(enter(24), leave(24), ret)), nil, nil, 100, 32)
	peaks(t, "a run that is stuck at an Enter", program(row(enter(24), enter(48))), nil, nil, 100, 32)
	peaks(t, "a ring", program(row(label(1), call(1), jmp(1)), row(enter(64), leave(64), ret)), nil, nil, 1000, 80)
	peaks(t, "calls for ever", program(row(call(0), ret)), nil, nil, 1000000, 8000008)
}

// TestGreatStack: without a limit frames are more than 2^31 - 1 bytes.
func TestGreatStack(t *testing.T) {
	p := program(row(enter(65536), call(0), leave(65536), ret))
	const each = 65544
	most := all / each
	peaks(t, "great frames", p, nil, nil, 1000000, most*each+8)
	r, _ := asm.Run(p, nil, nil, 1000000, all)
	if r.Kind != api.Overflow || r.Steps != 2*most+1 || len(r.Leaks) != most {
		t.Errorf("P20.1: great frames: %d, %d steps, %d leaks", r.Kind, r.Steps, len(r.Leaks))
	}
	if r, _ := asm.Run(p, nil, nil, 2*most, all); r.Kind != api.Fuel {
		t.Errorf("P20.1: great frames with less fuel: %d", r.Kind)
	}
}

// TestBlocks: 100000 blocks are the most of one run, globals and frames that are freed too.
func TestBlocks(t *testing.T) {
	for _, size := range []int64{0, 8} {
		p := program(row(label(1), enter(size), leave(size), jmp(1)))
		r, _ := asm.Run(p, nil, nil, 1000000, 16)
		if r.Kind != api.Stuck || r.Steps != 4*99998+2 {
			t.Errorf("P20.1: frames of %d bytes: %d behind %d steps", size, r.Kind, r.Steps)
		}
		peaks(t, "many frames", p, nil, nil, 1000000, 8+int(size))
	}
}

// TestGreat has long runs, great programs and deep calls, each in a short time.
func TestGreat(t *testing.T) {
	begun := time.Now()
	ring := program(row(movK(0, 0), label(1), aluK(api.Add, 0, 1), lea(3, 0, 7), cmpK(0, 10000000), set(api.Lt, 5), jmp(1)))
	if r, e := asm.Run(ring, nil, nil, 10000000, 8); e != api.OK || r.Kind != api.Fuel || r.Steps != 10000000 {
		t.Errorf("P20.1: a long run: %d, %d steps (%d)", r.Kind, r.Steps, e)
	}
	peaks(t, "deep calls", program(row(call(0), ret)), nil, nil, 3000000, 24000008)
	var code []asm.Ins
	for n := range 49999 {
		code = append(code, label(10000000-n), jmp(10000000-(n*7919+7919)%49999))
	}
	code = append(code, movK(0, 3), ret)
	p := asm.Prog{}
	for range 100 {
		p.Funcs = append(p.Funcs, asm.Func{Name: "great", Code: code})
	}
	if r, e := asm.Run(p, nil, nil, 100000, 8); e != api.OK || r.Kind != api.Fuel {
		t.Errorf("P20.1: a great program: %d (%d)", r.Kind, e)
	}
	if len(asm.Text(p)) < 100*100000*5 {
		t.Errorf("P20.1: a great program's Text is %d bytes", len(asm.Text(p)))
	}
	if used := time.Since(begun); used > time.Minute {
		t.Errorf("R1: great runs took %s", used)
	}
}
