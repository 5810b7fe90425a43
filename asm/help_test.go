package asm_test

import (
	"fmt"
	"slices"
	"testing"

	"plumbob/api"
	"plumbob/asm"
	"plumbob/bricks"
	"plumbob/codes"
	"plumbob/trace"
)

const (
	lowest  = -1 << 63
	highest = 1<<63 - 1
	all     = 1<<31 - 1 // a limit that is none
)

var (
	movR   = codes.MovR
	movK   = codes.MovK
	load   = codes.Load
	store  = codes.Store
	lea    = codes.Lea
	leaG   = codes.LeaG
	alu    = codes.Alu
	aluK   = codes.AluK
	un     = codes.Un
	ext    = codes.Ext
	shift  = codes.Shift
	shiftC = codes.ShiftC
	cqo    = codes.Cqo()
	idiv   = codes.Idiv
	cmp    = codes.Cmp
	cmpK   = codes.CmpK
	set    = codes.Set
	jmp    = codes.Jmp
	jcc    = codes.Jcc
	label  = codes.Label
	call   = codes.Call
	ret    = codes.Ret()
	enter  = codes.Enter
	leave  = codes.Leave
	in     = codes.In()
	out    = codes.Out()
	told   = bricks.Told
)

func l(numbers ...int64) []int64 { return numbers }

func row(l ...asm.Ins) []asm.Ins { return l }

// program has two globals, of 16 and 8 bytes, and functions of such code, the first one main.
func program(codes ...[]asm.Ins) asm.Prog {
	p := asm.Prog{Globals: []int{16, 8}}
	for n, code := range codes {
		p.Funcs = append(p.Funcs, asm.Func{Name: fmt.Sprint("f", n), Code: code})
	}
	return p
}

// taking gives main so many parameters.
func taking(params int, p asm.Prog) asm.Prog {
	p.Params = params
	return p
}

// spare is a copy with spare room behind each list, in which a call that keeps or changes what it was handed would be seen.
func spare(p asm.Prog) asm.Prog {
	full := func(code []asm.Ins) []asm.Ins {
		return append(append(make([]asm.Ins, 0, len(code)+2), code...), movK(3, 77), movK(4, 78))[:len(code)]
	}
	copied := asm.Prog{Globals: append(append([]int{}, p.Globals...), 7, 8)[:len(p.Globals)], Main: p.Main, Params: p.Params}
	for _, f := range p.Funcs {
		copied.Funcs = append(copied.Funcs, asm.Func{Name: f.Name, Code: full(f.Code)})
	}
	return copied
}

// dump tells all of a program, spare room too.
func dump(p asm.Prog) string {
	s := fmt.Sprint(p.Main, p.Params, p.Globals[:cap(p.Globals)])
	for _, f := range p.Funcs {
		s += fmt.Sprintf("%q%v", f.Name, f.Code[:cap(f.Code)])
	}
	return s
}

const most = 300000

// ended runs a program without a limit and tells its run. It asks that the second reading does the same, that it goes on alike with less fuel, and with less stack; and that Peak tells how much it needs.
func ended(t *testing.T, what string, p asm.Prog, args, world []int64) api.Run {
	t.Helper()
	p = spare(p)
	before := dump(p)
	r, e := asm.Run(p, args, world, most, all)
	if e != api.OK {
		t.Fatalf("P20.1: %s: %d", what, e)
	}
	again := reading(p, args, world, most, all)
	if told(r) != told(again.run) {
		t.Errorf("P20.1: %s: %.2000s, by the second reading %.2000s", what, told(r), told(again.run))
	}
	for fuel := 0; fuel < r.Steps; fuel += 1 + fuel/20 {
		part, e := asm.Run(p, args, world, fuel, all)
		if e != api.OK || part.Kind != api.Fuel || part.Exit != 0 || part.Steps != fuel || !begins(part, r) {
			t.Errorf("P20.1: %s, with fuel %d: %.2000s (%d), not as %.2000s begins", what, fuel, told(part), e, told(r))
		}
	}
	if exact, _ := asm.Run(p, args, world, r.Steps, all); told(exact) != told(r) {
		t.Errorf("P20.1: %s, with fuel %d: %s, want %s", what, r.Steps, told(exact), told(r))
	}
	needs(t, what, p, args, world, r, again.peak)
	if dump(p) != before {
		t.Errorf("R4: %s: the program is changed", what)
	}
	return r
}

// begins tells whether a run is as another one begins.
func begins(part, r api.Run) bool {
	return trace.Prefix(part.Events, r.Events) && slices.Equal(part.Leaks, r.Leaks[:min(len(part.Leaks), len(r.Leaks))]) && part.Steps <= r.Steps
}

// needs asks how much stack a run needs: with that it is the same, with one byte less it is Overflow.
func needs(t *testing.T, what string, p asm.Prog, args, world []int64, r api.Run, peak int) {
	t.Helper()
	n, e := asm.Peak(p, args, world, most)
	if n != peak || e != api.OK {
		t.Errorf("P20.1: %s: Peak %d (%d), by the second reading %d", what, n, e, peak)
	}
	if enough, _ := asm.Run(p, args, world, most, n); told(enough) != told(r) {
		t.Errorf("P20.1: %s, with limit %d: %s, want %s", what, n, told(enough), told(r))
	}
	for limit := n - 1; limit >= 0; limit -= 1 + (n-limit)/3 {
		less, e := asm.Run(p, args, world, most, limit)
		if e != api.OK || less.Kind != api.Overflow || less.Exit != 0 || !begins(less, r) {
			t.Errorf("P20.1: %s, with limit %d: %s (%d), want overflow", what, limit, told(less), e)
		}
		if other := reading(p, args, world, most, limit); told(other.run) != told(less) {
			t.Errorf("P20.1: %s, with limit %d: %s, by the second reading %s", what, limit, told(less), told(other.run))
		}
	}
}

// does asks what a run comes to: events, end, leaks, steps.
func does(t *testing.T, what string, p asm.Prog, args, world []int64, want string) {
	t.Helper()
	if r := ended(t, what, p, args, world); told(r) != want {
		t.Errorf("P20.1: %s: %s, want %s", what, told(r), want)
	}
}
