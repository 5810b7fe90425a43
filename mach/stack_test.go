package mach_test

import (
	"fmt"
	"math/rand"
	"slices"
	"testing"
	"time"

	"plumbob/api"
	"plumbob/linear"
	"plumbob/mach"
	"plumbob/rtl"
	"plumbob/trace"
)

// keeper is a function with a block, that names so many slots, and writes so many registers that its caller keeps.
func keeper(block, slots, registers int) rtl.Func {
	var code []rtl.Instr
	for n := range slots {
		code = append(code, constant(16+n, int64(n)))
	}
	for _, r := range kept[:registers] {
		code = append(code, constant(r, 5))
	}
	f := framed(block, function(0, row(append(code, constant(0, 9), leave())...)...))
	f.Regs = 5000
	return f
}

// TestLimit has frames at MaxSize: by the source's block, by slots, by kept registers, by all of these.
func TestLimit(t *testing.T) {
	for _, c := range []struct {
		block, slots, registers int
		want                    api.Errno
	}{
		{65536, 0, 0, api.OK}, {65535, 0, 0, api.OK}, {65521, 0, 0, api.OK}, {65536, 1, 0, api.ELIMIT}, {65536, 0, 1, api.ELIMIT}, {65536, 4984, 6, api.ELIMIT},
		{65535, 1, 0, api.ELIMIT}, {65529, 1, 0, api.ELIMIT}, {65528, 1, 0, api.OK}, {65521, 1, 0, api.OK}, {65520, 1, 0, api.OK}, {65528, 2, 0, api.ELIMIT}, {65521, 2, 0, api.ELIMIT}, {65520, 2, 0, api.OK}, {65520, 3, 0, api.ELIMIT},
		{65529, 0, 1, api.ELIMIT}, {65528, 0, 1, api.OK}, {65528, 0, 2, api.ELIMIT}, {65520, 0, 2, api.OK}, {65488, 0, 6, api.OK}, {65489, 0, 6, api.ELIMIT}, {65496, 0, 6, api.ELIMIT}, {65496, 0, 5, api.OK},
		{65528, 1, 1, api.ELIMIT}, {65520, 1, 1, api.OK}, {65521, 1, 1, api.ELIMIT}, {65512, 2, 1, api.OK}, {65512, 1, 2, api.OK}, {65512, 2, 2, api.ELIMIT},
		{0, 4984, 6, api.OK}, {25664, 4984, 0, api.OK}, {25665, 4984, 0, api.ELIMIT}, {25664, 4984, 1, api.ELIMIT}, {25616, 4984, 6, api.OK}, {25617, 4984, 6, api.ELIMIT}, {25616, 4983, 6, api.OK}, {25624, 4983, 6, api.OK}, {25632, 4983, 6, api.ELIMIT},
	} {
		what := fmt.Sprintf("a block of %d bytes, %d slots, %d registers", c.block, c.slots, c.registers)
		f, small := keeper(c.block, c.slots, c.registers), function(0, row(constant(0, 3), leave())...)
		// Whether it is main, or called, is not asked.
		for _, p := range []rtl.Prog{program(f), program(small, f), program(small, small, f, small)} {
			made, e := mach.Stack(flat(t, p))
			if e != c.want || (made == nil) != (e != api.OK) {
				t.Errorf("P19.1: Stack with %s: %d, want %d", what, e, c.want)
			}
		}
		if c.want != api.OK {
			continue
		}
		made := stacked(t, program(f))
		if n, e := made.Frame("f"); e != api.OK || n > api.MaxSize || n%16 != 0 || n < c.block+8*(c.slots+c.registers) {
			t.Errorf("P19.1: Frame with %s: %d, %d", what, n, e)
		}
		if r, _ := made.Run(nil, nil, 20000); trace.Text(r) != "halt 9\n" {
			t.Errorf("P19.1: Run with %s: %s", what, trace.Text(r))
		}
	}
}

// TestRows has rows written out: what is saved, where words stand, what has no value.
func TestRows(t *testing.T) {
	for _, c := range []struct {
		name, want string
		bytes      int
		f          rtl.Func
	}{
		{"a constant", "const K5 D0; return", 0, function(0, row(constant(0, 5), leave())...)},
		{"an answer that is none", "blank D0; return", 0, function(2, leave())},
		{"a register that is kept", "copy A3 D16; copy A7 D3; copy A3 D0; copy A16 D3; return", 16, function(1, row(move(7, 3), move(3, 0), leave())...)},
		{"all that are kept", "copy A3 D16; copy A5 D17; copy A12 D18; copy A13 D19; copy A14 D20; copy A15 D21; in D15; in D14; in D13; in D12; in D5; in D3; in D0; copy A16 D3; copy A17 D5; copy A18 D12; copy A19 D13; copy A20 D14; copy A21 D15; return", 48,
			function(0, row(input(15), input(14), input(13), input(12), input(5), input(3), input(0), leave())...)},
		{"slots", "copy A7 D17; copy A17 D16; copy A16 D0; return", 16, function(1, row(move(7, 19), move(19, 17), move(17, 0), leave())...)},
		{"a slot that is read alone", "out A16; const K1 D0; return", 16, function(1, row(output(18), constant(0, 1), leave())...)},
		{"a slot that a choice reads alone", "const K1 D0; cond gt A16 B-1 K2 stays, or goes to 2; label 2; return", 16, function(0, to(1, constant(0, 1)), test(18, 2, 2, 2), leave())},
		{"a slot of what can't be reached", "const K1 D0; return", 0, function(0, to(2, constant(0, 1)), to(0, constant(18, 2)), leave())},
		{"slots and a register", "copy A12 D18; const K1 D16; const K2 D12; bin add A16 B12 K0 D17; const K3 D0; copy A18 D12; return", 32, function(0, row(constant(16, 1), constant(12, 2), both(api.Add, 16, 12, 18), constant(0, 3), leave())...)},
		{"a block and a slot", "frame K8 D16; const K1 D0; return", 32, framed(9, function(0, row(home(8, 17), constant(0, 1), leave())...))},
		{"a block of no bytes", "const K1 D0; return", 0, framed(0, function(0, row(constant(0, 1), leave())...))},
		{"a pointer to a block of no bytes", "frame K0 D1; const K1 D0; return", 16, framed(0, function(0, row(home(0, 1), constant(0, 1), leave())...))},
		{"a parameter", "copy A7 D0; return", 0, function(1, row(move(7, 0), leave())...)},
		{"what is no parameter", "blank D7; copy A7 D0; return", 0, function(0, row(move(7, 0), leave())...)},
		{"a register that is kept, and has no value", "copy A14 D16; blank D14; copy A14 D0; copy A16 D14; return", 16, function(3, row(move(14, 0), leave())...)},
		{"a call's arguments", "blank D6; const K1 D7; call 2; return", 0, function(0, row(constant(7, 1), call(2, 2), leave())...)},
		{"a choice's", "blank D1; const K1 D0; cond gt A1 B-1 K2 stays, or goes to 2; label 2; return", 0, function(0, to(1, constant(0, 1)), test(1, 2, 2, 2), leave())},
		{"one that is written first on one way alone", "blank D1; const K1 D0; cond gt A7 B-1 K2 stays, or goes to 3; in D1; label 3; out A1; return", 0, function(1, to(1, constant(0, 1)), test(7, 2, 2, 3), to(3, input(1)), to(4, output(1)), leave())},
		{"one that is written first on both ways", "const K1 D0; cond gt A7 B-1 K2 stays, or goes to 3; in D1; label 4; out A1; return; label 3; const K0 D1; jump 4", 0, function(1, to(1, constant(0, 1)), test(7, 2, 2, 3), to(4, input(1)), to(4, constant(1, 0)), to(5, output(1)), leave())},
		{"one that is written first on the way that is laid first", "blank D1; const K1 D0; cond gt A7 B-1 K2 stays, or goes to 3; in D1; label 4; out A1; return; label 3; out A0; jump 4", 0, function(1, to(1, constant(0, 1)), test(7, 2, 2, 3), to(4, input(1)), to(4, output(0)), to(5, output(1)), leave())},
		{"one that is written in a loop, and read before", "blank D1; const K1 D0; label 2; out A1; in D1; cond gt A7 B-1 K2 goes to 2; return", 0, function(1, to(2, constant(0, 1)), test(7, 2, 2, 4), to(3, output(1)), to(1, input(1)), leave())},
		{"behind a call", "in D1; in D2; in D9; call 1; blank D2; blank D9; out A2; out A9; const K1 D0; return", 0, function(0, row(input(1), input(2), input(9), call(1, 0), output(2), output(9), constant(0, 1), leave())...)},
		{"behind a call: what stays", "copy A3 D17; in D3; in D16; call 1; out A0; out A3; out A16; copy A17 D3; return", 16, function(0, row(input(3), input(17), call(1, 0), output(0), output(3), output(17), leave())...)},
		{"behind two calls", "call 1; call 1; return", 0, function(0, row(call(1, 0), call(1, 0), leave())...)},
		{"back to the entry", "copy A3 D16; label 0; in D3; cond gt A3 B-1 K4 goes to 0; const K1 D0; copy A16 D3; return", 16, function(0, to(1, input(3)), test(3, 4, 0, 2), to(3, constant(0, 1)), leave())},
		{"two Returns", "copy A3 D16; blank D0; in D3; cond gt A3 B-1 K4 stays, or goes to 2; copy A16 D3; return; label 2; const K1 D0; copy A16 D3; return", 16, function(0, to(1, input(3)), test(3, 4, 4, 2), to(3, constant(0, 1)), leave(), leave())},
	} {
		p := stacked(t, program(c.f, named("g", function(0, row(constant(0, 1), leave())...)), named("h", function(2, row(move(6, 0), leave())...))))
		if got := body(p); got != c.want {
			t.Errorf("P19.1: %s: %s, want %s", c.name, got, c.want)
		}
		if n, e := p.Frame("f"); n != c.bytes || e != api.OK {
			t.Errorf("P19.1: Frame of %s: %d (%d), want %d", c.name, n, e, c.bytes)
		}
	}
}

// TestText has one written out whole.
func TestText(t *testing.T) {
	next := framed(24, function(2, row(move(6, 16), leave())...))
	next.Name, next.Regs = "a \"b\"\xff", 400
	p := rtl.Prog{Globals: []int{5, 0}, Main: 1, Funcs: []rtl.Func{next, entered(1, function(0, leave(), to(2, constant(17, -5)), to(0, move(17, 0))))}}
	want := "main 1\nglobal 0 of 5 bytes\nglobal 1 of 0 bytes\nfunction 0 \"a \\\"b\\\"\\xff\" of 2 with 32 bytes, of which 24 are its block's\n\tblank D0\n\tcopy A6 D16\n\treturn\nfunction 1 \"f\" of 0 with 16 bytes, of which 0 are its block's\n\tconst K-5 D16\n\tcopy A16 D0\n\treturn\n"
	if got := stacked(t, p).Text(); got != want {
		t.Errorf("P19.1: Text: %s, want %s", got, want)
	}
}

// TestTextsUnlike: programs that are unlike in what they do have unlike Texts.
func TestTextsUnlike(t *testing.T) {
	all := []rtl.Prog{{Funcs: []rtl.Func{function(0, leave())}}, {Globals: []int{0}, Funcs: []rtl.Func{function(0, leave())}}, {Globals: []int{1}, Funcs: []rtl.Func{function(0, leave())}}, {Funcs: []rtl.Func{function(1, leave())}}, {Funcs: []rtl.Func{framed(8, function(0, leave()))}}, {Funcs: []rtl.Func{framed(9, function(0, leave()))}},
		{Funcs: []rtl.Func{function(0, leave()), function(0, leave())}}, {Main: 1, Funcs: []rtl.Func{function(0, leave()), function(0, leave())}}, program(function(2, nothing(0)))}
	for _, i := range []rtl.Instr{
		constant(0, 1), constant(0, -1), constant(1, 1), constant(16, 1), constant(3, 1), move(7, 0), move(0, 7), move(7, 1), move(7, 3), move(3, 7), move(7, 16), move(16, 7), input(0), input(3), input(16), output(7), output(6), output(3), output(16), nothing(0), call(0, 2), call(1, 2), call(2, 0),
		fixed(api.Add, 7, 1, 0), fixed(api.Add, 7, 2, 0), fixed(api.Sub, 7, 1, 0), fixed(api.Add, 6, 1, 0), fixed(api.Add, 7, 1, 6), both(api.Add, 7, 6, 0), both(api.Add, 6, 7, 0), both(api.Add, 7, 7, 0), both(api.Add, 7, 16, 0), both(api.Add, 16, 7, 0), both(api.Add, 16, 17, 0), both(api.Add, 17, 16, 0), both(api.Add, 16, 16, 0),
		{Op: rtl.Un, Sub: api.Neg, A: 7}, {Op: rtl.Un, Sub: api.Not, A: 7}, {Op: rtl.Un, Sub: api.Neg, A: 6}, load(4, 7, 0, 0), load(8, 7, 0, 0), load(8, 6, 0, 0), load(8, 7, 8, 0), load(8, 7, 0, 6), store(4, 7, 0, 6), store(8, 7, 0, 6), store(8, 6, 0, 7), store(8, 7, 8, 6), global(0, 0, 0), global(1, 0, 0), global(0, 8, 0), global(0, 0, 1), home(0, 0), home(8, 0), home(0, 1),
		test(7, 0, 1, 2), test(7, 0, 2, 1), test(7, 1, 1, 2), test(7, 0, 0, 2), test(7, 0, 1, 0), test(7, 0, 0, 1), test(7, 0, 2, 0), test(7, 0, 0, 0), test(7, 0, 1, 1), test(7, 0, 2, 2), test(6, 0, 1, 2), test(3, 0, 1, 2), test(16, 0, 1, 2),
	} {
		if i.Op != rtl.Cond {
			i.S = 1
		}
		f := framed(8, function(2, i, to(2, output(6)), leave()))
		all = append(all, rtl.Prog{Globals: []int{8, 0}, Funcs: []rtl.Func{f, function(2, leave()), function(0, leave())}})
	}
	seen := map[string]string{}
	for _, p := range all {
		text := stacked(t, p).Text()
		if other, ok := seen[text]; ok {
			t.Errorf("P19.1: %sand %sare both told as %s", other, rtl.Text(p), text)
		}
		seen[text] = rtl.Text(p)
	}
}

// TestTextsAlikeByChance: small programs that are told alike do the same.
func TestTextsAlikeByChance(t *testing.T) {
	t.Parallel()
	seen := map[string]*linear.Prog{}
	alike := 0
	for seed := range int64(25000) {
		r := rand.New(rand.NewSource(seed))
		var code []rtl.Instr
		for range 3 {
			from, into := []int{7, 3, 16, 17}[r.Intn(4)], []int{7, 3, 16, 17}[r.Intn(4)]
			code = append(code, []rtl.Instr{to(r.Intn(4), move(from, into)), to(r.Intn(4), output(from)), test(from, int64(r.Intn(2)), r.Intn(4), r.Intn(4)), to(r.Intn(4), fixed(api.Add, from, 1, into))}[r.Intn(4)])
		}
		rows := flat(t, program(framed(8*r.Intn(2), function(1, append(code, leave())...))))
		made := framedOf(t, rows)
		other, ok := seen[made.Text()]
		seen[made.Text()] = rows
		if !ok {
			continue
		}
		if other.Text() != rows.Text() {
			alike++
		}
		for _, args := range [][]int64{{0}, {1}, {-2}} {
			a, _ := other.Run(args, nil, 30)
			b, _ := rows.Run(args, nil, 30)
			if told(a) != told(b) {
				t.Fatalf("P19.1: %sand %sare both told as %s", other.Text(), rows.Text(), made.Text())
			}
		}
	}
	if alike < 500 {
		t.Errorf("P19.1: %d times unlike programs are told alike", alike)
	}
}

// TestNewMemory: what is handed in is not kept, and what is answered is new each time.
func TestNewMemory(t *testing.T) {
	rows := flat(t, program(framed(5, function(2, test(7, 0, 1, 4), to(2, call(1, 2)), to(3, output(0)), leave(), to(3, constant(0, 77)))), function(2, row(move(6, 3), move(3, 0), leave())...)))
	text := rows.Text()
	made := framedOf(t, rows)
	stacked := made.Text()
	first, e := made.Run(l(3, 4), l(5), 100)
	if e != api.OK || trace.Text(first) != "out 4\nhalt 4\n" {
		t.Errorf("P19.1: Run: %s, %d", told(first), e)
	}
	want := told(first)
	clear(first.Leaks[:cap(first.Leaks)])
	clear(first.Events[:cap(first.Events)])
	if again, _ := made.Run(l(3, 4), l(5), 100); told(again) != want {
		t.Errorf("R4: Run: what is done to an answer changes another: %s, want %s", told(again), want)
	}
	args, world := []int64{3, 4, 5}, []int64{6, 7}
	made.Run(args[:2], world[:1], 100)
	if !slices.Equal(args, []int64{3, 4, 5}) || !slices.Equal(world, []int64{6, 7}) {
		t.Errorf("R4: Run changes what is handed in: %v, %v", args, world)
	}
	if above, _ := rows.Run(l(3, 4), l(5), 100); rows.Text() != text || told(above) != "out 4|halt 4|branch1,0 call1,0 8" || made.Text() != stacked {
		t.Errorf("R4: Stack: the rows are %s, they were %s: %s", rows.Text(), text, told(above))
	}
	// Two that are made of one are apart.
	parts := framedOf(t, rows).Parts()
	for n := range parts.Functions {
		clear(parts.Functions[n].Code)
	}
	clear(parts.Globals)
	if again, _ := made.Run(l(3, 4), l(5), 100); told(again) != want || made.Text() != stacked || rows.Text() != text {
		t.Errorf("R4: Stack: two of one program share memory: %s, want %s", told(again), want)
	}
}

// TestGreat has programs as great as they may be: all nodes ask, and go on near and far; a long way back, on which one register is asked after another.
func TestGreat(t *testing.T) {
	const most = 5000
	r := rand.New(rand.NewSource(5))
	far, near, back := make([]rtl.Instr, most), make([]rtl.Instr, most), make([]rtl.Instr, most)
	registers := nameable(16)
	for n := range most - 1 {
		far[n] = test(16+n%4984, int64(n), r.Intn(most), r.Intn(most))
		near[n] = test(registers[n%len(registers)], int64(n), n+1, r.Intn(n+1))
		back[n] = test(registers[n*len(registers)/most], int64(n), most-1, max(0, n-1))
	}
	far[most-1], near[most-1], back[most-1] = leave(), leave(), leave()
	begin := time.Now()
	for _, code := range [][]rtl.Instr{far, near, back} {
		f := entered(most-2, function(1, code...))
		f.Regs = most
		rows := flat(t, rtl.Prog{Funcs: slices.Repeat([]rtl.Func{f}, 100)})
		if made, e := mach.Stack(rows); e != api.OK || made.Text() == "" {
			t.Fatalf("P19.1: Stack of a great one: %d", e)
		}
	}
	if took := time.Since(begin); took > 30*time.Second {
		t.Errorf("R1: great programs take %v", took)
	}
}
