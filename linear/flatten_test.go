package linear_test

import (
	"fmt"
	"math/rand"
	"slices"
	"strings"
	"testing"
	"time"

	"plumbob/api"
	"plumbob/graphs"
	"plumbob/linear"
	"plumbob/ltl"
	"plumbob/rtl"
	"plumbob/trace"
)

// wrongs are the ways in which a program is not ltl's Good, each a change of one that is.
func wrongs() map[string]func(p *rtl.Prog) {
	all := map[string]func(p *rtl.Prog){
		"main 2":                  func(p *rtl.Prog) { p.Main = 2 },
		"main -1":                 func(p *rtl.Prog) { p.Main = -1 },
		"no functions":            func(p *rtl.Prog) { *p = rtl.Prog{} },
		"a global of -1":          func(p *rtl.Prog) { p.Globals[0] = -1 },
		"a global of 65537":       func(p *rtl.Prog) { p.Globals[1] = 65537 },
		"201 globals":             func(p *rtl.Prog) { p.Globals = make([]int, 201) },
		"101 functions":           func(p *rtl.Prog) { p.Funcs = slices.Repeat(p.Funcs[1:], 101) },
		"a frame of -1":           func(p *rtl.Prog) { p.Funcs[1].Frame = -1 },
		"a frame of 65537":        func(p *rtl.Prog) { p.Funcs[0].Frame = 65537 },
		"the entry -1":            func(p *rtl.Prog) { p.Funcs[0].Entry = -1 },
		"the entry 2":             func(p *rtl.Prog) { p.Funcs[0].Entry = 2 },
		"no code":                 func(p *rtl.Prog) { p.Funcs[0].Code = nil },
		"5001 nodes":              func(p *rtl.Prog) { p.Funcs[0].Code = slices.Repeat([]rtl.Instr{leave()}, 5001) },
		"a node that is none":     func(p *rtl.Prog) { p.Funcs[0].Code = []rtl.Instr{leave(), {Op: 15}} },
		"a function without code": func(p *rtl.Prog) { p.Funcs = append(p.Funcs, rtl.Func{Regs: 16}) },
		"15 locations":            func(p *rtl.Prog) { p.Funcs[1].Regs = 15 },
		"5001 locations":          func(p *rtl.Prog) { p.Funcs[0].Regs = 5001 },
		"-1 locations":            func(p *rtl.Prog) { p.Funcs[0].Regs = -1 },
		"parameters alike":        func(p *rtl.Prog) { p.Funcs[0].Params = []int{7, 7} },
		"parameters the other way": func(p *rtl.Prog) {
			p.Funcs[0].Params = []int{6, 7}
		},
		"a parameter elsewhere":  func(p *rtl.Prog) { p.Funcs[1].Params = []int{0} },
		"a seventh parameter":    func(p *rtl.Prog) { p.Funcs[1].Params = append(slices.Clone(order), 16) },
		"a wrong one not called": func(p *rtl.Prog) { p.Funcs[1].Code = []rtl.Instr{leave(), constant(4, 0)} },
	}
	for name, i := range map[string]rtl.Instr{
		"too few Args": {Op: rtl.Call, Args: []int{7}}, "too many Args": {Op: rtl.Call, Args: []int{7, 6, 2}}, "Args the other way": {Op: rtl.Call, Args: []int{6, 7}}, "Args elsewhere": {Op: rtl.Call, Args: []int{7, 16}},
		"a call of -1": {Op: rtl.Call, Sub: -1}, "a call of 2": {Op: rtl.Call, Sub: 2}, "a call whose answer goes elsewhere": {Op: rtl.Call, Args: []int{7, 6}, D: 1}, "a call whose answer is dropped": {Op: rtl.Call, Args: []int{7, 6}, D: -1},
		"the global -1": {Op: rtl.Global, Sub: -1}, "the global 2": {Op: rtl.Global, Sub: 2}, "byte 17 of a global": {Op: rtl.Global, K: 17}, "byte -1 of a global": {Op: rtl.Global, K: -1},
		"byte 1 of the frame": {Op: rtl.Frame, K: 1}, "byte -1 of the frame": {Op: rtl.Frame, K: -1},
		"S 2": {Op: rtl.Nop, S: 2}, "S -1": {Op: rtl.Const, S: -1}, "S 2 of Cond": {Op: rtl.Cond, Sub: api.Eq, S: 2}, "T 2 of Cond": {Op: rtl.Cond, Sub: api.Eq, T: 2}, "T -1 of Cond": {Op: rtl.Cond, Sub: api.Eq, T: -1},
		"a Return of no location": {Op: rtl.Return, A: -1}, "a Return of another": {Op: rtl.Return, A: 1}, "the location 20": {Op: rtl.Const, D: 20}, "the location -1": {Op: rtl.Copy, A: -1}, "no location to store": {Op: rtl.Store, Sub: 8, B: -1},
		"Op 0": {}, "Op 15": {Op: 15}, "the least Op": {Op: lowest}, "the most Op": {Op: highest},
		"Sub 5 of Un": {Op: rtl.Un, Sub: 5}, "Sub 10 of Bin": {Op: rtl.Bin, Sub: 10}, "Sub 20 of Cond": {Op: rtl.Cond, Sub: 20}, "Sub 2 of Load": {Op: rtl.Load, Sub: 2}, "Sub 16 of Store": {Op: rtl.Store, Sub: 16},
	} {
		all[name] = func(p *rtl.Prog) { p.Funcs[0].Code[0] = i }
	}
	for _, loc := range reserved {
		for _, i := range []rtl.Instr{{Op: rtl.Const, D: loc}, {Op: rtl.Copy, A: loc}, {Op: rtl.Bin, Sub: api.Add, B: loc}, {Op: rtl.Store, Sub: 8, B: loc}, {Op: rtl.Cond, Sub: api.Eq, A: loc, B: -1}, {Op: rtl.Cond, Sub: api.Eq, B: loc}, {Op: rtl.In, D: loc}, {Op: rtl.Out, A: loc}} {
			all[fmt.Sprintf("location %d named: %+v", loc, i)] = func(p *rtl.Prog) { p.Funcs[0].Code[0] = i }
		}
	}
	return all
}

// whole is a program that is Good.
func whole() rtl.Prog {
	return program(function(2, to(1, move(7, 0)), leave()), function(0, to(1, constant(0, 3)), leave()))
}

// TestRefused has each way in which Flatten is EARG, and programs that are nearly so.
func TestRefused(t *testing.T) {
	for name, change := range wrongs() {
		p := whole()
		change(&p)
		if made, e := linear.Flatten(p); made != nil || e != api.EARG {
			t.Errorf("P18.1: Flatten with %s: %v, %d", name, made, e)
		}
	}
	for _, change := range map[string]func(p *rtl.Prog){
		"as it is":             func(p *rtl.Prog) {},
		"main 1":               func(p *rtl.Prog) { p.Main = 1 },
		"no globals":           func(p *rtl.Prog) { p.Globals = nil },
		"200 globals of 65536": func(p *rtl.Prog) { p.Globals = slices.Repeat([]int{65536}, 200) },
		"100 functions":        func(p *rtl.Prog) { p.Funcs = slices.Repeat(p.Funcs[1:], 100) },
		"a frame of 65536":     func(p *rtl.Prog) { p.Funcs[0].Frame = 65536 },
		"the entry 1":          func(p *rtl.Prog) { p.Funcs[0].Entry = 1 },
		"5000 nodes":           func(p *rtl.Prog) { p.Funcs[0].Code = slices.Repeat([]rtl.Instr{leave()}, 5000) },
		"16 locations":         func(p *rtl.Prog) { p.Funcs[1].Regs = 16 },
		"5000 locations":       func(p *rtl.Prog) { p.Funcs[0].Regs = 5000; p.Funcs[0].Code[0].D = 4999 },
		"the byte behind":      func(p *rtl.Prog) { p.Funcs[0].Code[0] = rtl.Instr{Op: rtl.Global, K: 16, S: 1} },
		"names alike":          func(p *rtl.Prog) { p.Funcs[0].Name, p.Funcs[1].Name = "\xff", "\xff" },
		"six parameters":       func(p *rtl.Prog) { p.Funcs[1].Params = order },
	} {
		p := whole()
		change(&p)
		flat(t, p)
	}
}

// TestRefusedByChance: it is just ltl's Good that is asked.
func TestRefusedByChance(t *testing.T) {
	count := map[bool]int{}
	for seed := range int64(6000) {
		r := rand.New(rand.NewSource(seed))
		p := graphs.Renamed(graphs.Wild(r.Intn, 1), in(shuffled(r, nameable(20))))
		p.Funcs[r.Intn(2)] = over(graphs.Broken(r.Intn))
		isGood := ltl.Good(p)
		made, e := linear.Flatten(p)
		if isGood != (e == api.OK) || !isGood && e != api.EARG || (made != nil) != isGood {
			t.Fatalf("P18.1: Flatten of %s: %d", rtl.Text(p), e)
		}
		count[isGood]++
	}
	if count[true] < 200 || count[false] < 2000 {
		t.Errorf("P18.1: good and not: %v", count)
	}
}

// over makes a function one with as many locations as there must be, whose calls and Returns are as they must be.
func over(f rtl.Func) rtl.Func {
	if f.Regs == 3 {
		f.Regs = 20
	}
	f.Params = order[:len(f.Params)]
	for n := range f.Code {
		switch i := &f.Code[n]; i.Op {
		case rtl.Call:
			i.D, i.Args = 0, order[:len(i.Args)]
		case rtl.Return:
			i.A = 0
		}
	}
	return f
}

// body tells the row of a program's first function.
func body(p *linear.Prog) string {
	_, text, _ := strings.Cut(p.Text(), "function 0")
	text, _, _ = strings.Cut(text, "\nfunction 1")
	_, text, _ = strings.Cut(text, "\n\t")
	return strings.TrimSuffix(strings.ReplaceAll(text, "\n\t", "; "), "\n")
}

// TestRows has rows written out, and how many jumps without a choice they have.
func TestRows(t *testing.T) {
	for _, c := range []struct {
		name, want string
		jumps      int
		f          rtl.Func
	}{
		{"a Return", "return", 0, function(0, leave())},
		{"straight on", "const K1 D0; out A0; return", 0, function(0, row(constant(0, 1), output(0), leave())...)},
		{"straight on, in any order", "const K1 D0; out A0; in D0; return", 0, entered(2, function(0, to(3, input(0)), leave(), to(4, constant(0, 1)), to(1, nothing(0)), to(0, output(0))))},
		{"with Nops", "out A7; return", 0, entered(3, function(1, nothing(4), to(2, output(7)), nothing(0), nothing(1), leave()))},
		{"what can't be reached", "return", 0, entered(1, function(0, to(1, constant(19, 1)), leave(), nothing(2), test(0, 0, 0, 1)))},
		{"a Nop for ever", "label 0; jump 0", 1, function(0, nothing(0))},
		{"a ring of Nops", "label 1; jump 1", 1, entered(1, function(0, nothing(1), nothing(2), nothing(0)))},
		{"into a ring of Nops", "out A7; label 2; jump 2", 1, function(1, to(1, output(7)), nothing(2), nothing(3), nothing(2))},
		{"a loop without an end", "label 0; in D0; out A0; jump 0", 1, function(0, to(1, input(0)), to(0, output(0)))},
		{"a choice", "cond gt A7 B-1 K3 stays, or goes to 1; in D0; return; label 1; return", 0, function(1, test(7, 3, 2, 1), leave(), to(3, input(0)), leave())},
		{"a choice between in and nothing", "cond gt A7 B-1 K3 stays, or goes to 2; in D0; label 2; return", 0, function(1, test(7, 3, 1, 2), to(2, input(0)), leave())},
		{"a choice between nothing and in", "cond gt A7 B-1 K3 stays, or goes to 1; label 2; return; label 1; in D0; jump 2", 1, function(1, test(7, 3, 2, 1), to(2, input(0)), leave())},
		{"a choice between in and out", "cond gt A7 B-1 K3 stays, or goes to 1; in D0; label 3; return; label 1; out A7; jump 3", 1, function(1, test(7, 3, 2, 1), to(3, output(7)), to(3, input(0)), leave())},
		{"a choice with one way", "cond gt A7 B-1 K3 stays, or goes to 1; label 1; return", 0, function(1, test(7, 3, 1, 1), leave())},
		{"a choice with one way through Nops", "cond gt A7 B-1 K3 stays, or goes to 2; label 2; return", 0, function(1, test(7, 3, 1, 3), nothing(2), leave(), nothing(1))},
		{"a choice of itself", "label 0; cond gt A7 B-1 K3 goes to 0; jump 0", 1, function(1, test(7, 3, 0, 0))},
		{"a choice of itself, if it is so", "label 1; cond gt A7 B-1 K3 goes to 1; return", 0, entered(1, function(1, leave(), test(7, 3, 1, 0)))},
		{"a choice of itself, if it is not so", "label 1; cond gt A7 B-1 K3 stays, or goes to 1; return", 0, entered(1, function(1, leave(), test(7, 3, 0, 1)))},
		{"a loop", "label 0; cond gt A7 B-1 K0 stays, or goes to 2; bin add A7 B-1 K-1 D7; jump 0; label 2; return", 1, function(1, test(7, 0, 1, 2), to(0, fixed(api.Add, 7, -1, 7)), leave())},
		{"a loop that is asked at its end", "label 0; bin add A7 B-1 K-1 D7; cond gt A7 B-1 K0 goes to 0; return", 0, function(1, to(1, fixed(api.Add, 7, -1, 7)), test(7, 0, 0, 2), leave())},
		{"into two rings", "cond gt A7 B-1 K0 stays, or goes to 2; label 1; jump 1; label 2; jump 2", 2, function(1, test(7, 0, 1, 2), nothing(1), nothing(2))},
		{"back to the entry", "label 0; in D7; cond gt A7 B-1 K0 stays, or goes to 0; out A7; cond gt A7 B-1 K9 goes to 0; jump 0", 1, function(0, to(1, input(7)), test(7, 0, 2, 0), to(3, output(7)), test(7, 9, 0, 0))},
		{"a call", "call 0; bin add A0 B9 K0 D16; return", 0, function(6, row(call(0, 6), rtl.Instr{Op: rtl.Bin, Sub: api.Add, A: 0, B: 9, K: 5, D: 16}, leave())...)},
		{"one of each", "copy A7 D0; un neg A0 D3; load 4 A3 K8 D0; store 8 A3 B0 K-8; global 0 K16 D5; frame K0 D19; cond le A0 B3 K0 stays, or goes to 7; label 7; return", 0, function(1, row(rtl.Instr{Op: rtl.Copy, A: 7, B: 99, K: 3, T: 5}, rtl.Instr{Op: rtl.Un, Sub: api.Neg, D: 3, Args: []int{4}}, rtl.Instr{Op: rtl.Load, Sub: 4, A: 3, K: 8},
			rtl.Instr{Op: rtl.Store, Sub: 8, A: 3, K: -8, D: 4}, rtl.Instr{Op: rtl.Global, K: 16, D: 5}, rtl.Instr{Op: rtl.Frame, D: 19}, rtl.Instr{Op: rtl.Cond, Sub: api.Le, B: 3, K: 7, T: 7}, rtl.Instr{Op: rtl.Return, S: 7, T: lowest, D: 4})...)},
	} {
		p := flat(t, program(c.f))
		if got := body(p); got != c.want || p.Jumps() != c.jumps {
			t.Errorf("P18.1: %s: %d, %s, want %d, %s", c.name, p.Jumps(), got, c.jumps, c.want)
		}
		if two := flat(t, program(c.f, c.f, whole().Funcs[1])); two.Jumps() != 2*c.jumps {
			t.Errorf("P18.1: %s, twice: %d jumps, want %d", c.name, two.Jumps(), 2*c.jumps)
		}
	}
}

// TestText has one written out whole.
func TestText(t *testing.T) {
	next := framed(24, function(2, leave()))
	next.Name, next.Regs = "a \"b\"\xff", 400
	p := rtl.Prog{Globals: []int{5, 0}, Main: 1, Funcs: []rtl.Func{next, entered(1, function(0, leave(), to(2, constant(17, -5)), to(0, move(17, 0))))}}
	want := "main 1\nglobal 0 of 5 bytes\nglobal 1 of 0 bytes\nfunction 0 \"a \\\"b\\\"\\xff\" of 2 with 16 locations and 24 bytes\n\treturn\nfunction 1 \"f\" of 0 with 18 locations and 0 bytes\n\tconst K-5 D17\n\tcopy A17 D0\n\treturn\n"
	if got := flat(t, p).Text(); got != want {
		t.Errorf("P18.1: Text: %s, want %s", got, want)
	}
}

// TestTextsUnlike: programs that are unlike in what they do have unlike Texts.
func TestTextsUnlike(t *testing.T) {
	instructions := []rtl.Instr{
		constant(0, 1), constant(0, -1), constant(1, 1), constant(16, 1), move(7, 0), move(0, 7), move(7, 1), input(0), input(16), output(7), output(6), nothing(0), call(0, 2), call(1, 2), call(2, 0), fixed(api.Add, 7, 1, 0), fixed(api.Add, 7, 2, 0), fixed(api.Sub, 7, 1, 0), fixed(api.Add, 6, 1, 0), fixed(api.Add, 7, 1, 6),
		{Op: rtl.Bin, Sub: api.Add, A: 7, B: 6}, {Op: rtl.Bin, Sub: api.Add, A: 6, B: 7}, {Op: rtl.Bin, Sub: api.Add, A: 7, B: 7}, {Op: rtl.Un, Sub: api.Neg, A: 7}, {Op: rtl.Un, Sub: api.Not, A: 7}, {Op: rtl.Un, Sub: api.Neg, A: 6},
		{Op: rtl.Load, Sub: 4, A: 7}, {Op: rtl.Load, Sub: 8, A: 7}, {Op: rtl.Load, Sub: 8, A: 6}, {Op: rtl.Load, Sub: 8, A: 7, K: 8}, {Op: rtl.Load, Sub: 8, A: 7, D: 6}, {Op: rtl.Store, Sub: 4, A: 7, B: 6}, {Op: rtl.Store, Sub: 8, A: 7, B: 6}, {Op: rtl.Store, Sub: 8, A: 6, B: 7}, {Op: rtl.Store, Sub: 8, A: 7, B: 6, K: 8},
		{Op: rtl.Global}, {Op: rtl.Global, Sub: 1}, {Op: rtl.Global, K: 8}, {Op: rtl.Global, D: 1}, {Op: rtl.Frame}, {Op: rtl.Frame, K: 8}, {Op: rtl.Frame, D: 1},
	}
	var all []rtl.Prog
	for _, i := range instructions {
		i.S = 1
		f := framed(8, function(2, i, leave()))
		all = append(all, rtl.Prog{Globals: []int{8, 0}, Funcs: []rtl.Func{f, function(2, leave()), function(0, leave())}})
	}
	for _, i := range []rtl.Instr{test(7, 0, 1, 2), test(7, 0, 2, 1), test(7, 1, 1, 2), test(7, 0, 0, 2), test(7, 0, 1, 0), test(7, 0, 0, 1), test(7, 0, 2, 0), test(7, 0, 0, 0), test(7, 0, 1, 1), test(7, 0, 2, 2), test(6, 0, 1, 2), {Op: rtl.Cond, Sub: api.Lt, A: 7, B: -1, S: 1, T: 2}, {Op: rtl.Cond, Sub: api.Gt, A: 7, B: 6, S: 1, T: 2}, {Op: rtl.Cond, Sub: api.Gt, A: 6, B: 7, S: 1, T: 2}} {
		all = append(all, program(function(2, i, to(2, output(7)), leave())))
	}
	all = append(all, rtl.Prog{Funcs: []rtl.Func{function(0, leave())}}, rtl.Prog{Globals: []int{0}, Funcs: []rtl.Func{function(0, leave())}}, rtl.Prog{Globals: []int{1}, Funcs: []rtl.Func{function(0, leave())}}, rtl.Prog{Funcs: []rtl.Func{function(1, leave())}},
		rtl.Prog{Funcs: []rtl.Func{framed(8, function(0, leave()))}}, rtl.Prog{Funcs: []rtl.Func{function(0, leave()), function(0, leave())}}, rtl.Prog{Main: 1, Funcs: []rtl.Func{function(0, leave()), function(0, leave())}}, program(function(2, nothing(0))))
	seen := map[string]string{}
	for _, p := range all {
		text := flat(t, p).Text()
		if other, ok := seen[text]; ok {
			t.Errorf("P18.1: %sand %sare both told as %s", other, rtl.Text(p), text)
		}
		seen[text] = rtl.Text(p)
	}
}

// TestTextsAlikeByChance: small programs that are told alike do the same.
func TestTextsAlikeByChance(t *testing.T) {
	seen := map[string]rtl.Prog{}
	alike := 0
	for seed := range int64(25000) {
		r := rand.New(rand.NewSource(seed))
		var code []rtl.Instr
		for range 3 {
			code = append(code, []rtl.Instr{nothing(r.Intn(3)), to(r.Intn(3), output(6+r.Intn(2))), test(7, int64(r.Intn(2)), r.Intn(3), r.Intn(3)), leave(), to(r.Intn(3), fixed(api.Add, 7, 1, 7))}[r.Intn(5)])
		}
		p := program(entered(r.Intn(3), function(2, code...)))
		text := flat(t, p).Text()
		other, ok := seen[text]
		seen[text] = p
		if !ok {
			continue
		}
		if rtl.Text(other) != rtl.Text(p) {
			alike++
		}
		for _, args := range [][]int64{{0, 5}, {1, -5}, {-2, 5}} {
			a, _ := ltl.Run(other, args, nil, 30)
			b, _ := ltl.Run(p, args, nil, 30)
			if a.Kind == api.Stuck && b.Kind == api.Stuck || a.Kind == b.Kind && (a.Kind == api.Fuel || trace.Same(a, b) && trace.Leaks(a, b)) {
				continue
			}
			t.Fatalf("P18.1: %sand %sare both told as %s", rtl.Text(other), rtl.Text(p), text)
		}
	}
	if alike < 2000 {
		t.Errorf("P18.1: %d times unlike programs are told alike", alike)
	}
}

// TestNewMemory: what is handed in is not kept, and what is answered is new each time.
func TestNewMemory(t *testing.T) {
	code := row(test(7, 0, 0, 3), call(1, 2), output(0), leave(), constant(0, 77))
	params, globals, args := []int{7, 6, 78}, []int{8, 16, 79}, []int{7, 6, 77}
	code[1].Args = args[:2]
	f, g := function(2), function(2, row(move(6, 0), leave())...)
	f.Params, f.Code = params[:2], code[:4]
	funcs := []rtl.Func{f, g, {Name: "behind"}}
	p := rtl.Prog{Globals: globals[:2], Funcs: funcs[:2]}
	tell := func() string { return fmt.Sprint(code, params, globals, args, funcs) }
	before := tell()
	made := flat(t, p)
	text := made.Text()
	first, _ := made.Run(l(3, 4), nil, 100)
	if tell() != before || told(first) != "out 4|halt 4|branch1,0 call1,0 7" {
		t.Errorf("R4: Flatten, Run: %s, it was %s; %s", tell(), before, told(first))
	}
	clear(globals)
	clear(params)
	clear(args)
	clear(code)
	clear(g.Code)
	clear(funcs)
	if second, _ := made.Run(l(3, 4), nil, 100); made.Text() != text || told(second) != told(first) || made.Jumps() != 0 {
		t.Errorf("R4: Flatten keeps what was handed in: %s, it was %s; %s", made.Text(), text, told(second))
	}
	clear(first.Leaks[:cap(first.Leaks)])
	clear(first.Events[:cap(first.Events)])
	if third, _ := made.Run(l(3, 4), nil, 100); told(third) != "out 4|halt 4|branch1,0 call1,0 7" {
		t.Errorf("R4: Run: what is done to an answer changes another: %s", told(third))
	}
}

// TestGreat has programs as great as they may be: all nodes ask, and go on near and far; Nops in a long row; a deep graph.
func TestGreat(t *testing.T) {
	const most = 5000
	r := rand.New(rand.NewSource(5))
	far, near, nops := make([]rtl.Instr, most), make([]rtl.Instr, most), make([]rtl.Instr, most)
	for n := range most - 1 {
		far[n] = test(7, int64(n), r.Intn(most), r.Intn(most))
		near[n] = test(7, int64(n), n+1, r.Intn(n+1))
		nops[n] = nothing(n + 1)
	}
	far[most-1], near[most-1], nops[most-1] = leave(), leave(), leave()
	begin := time.Now()
	for _, code := range [][]rtl.Instr{far, near, nops} {
		p := rtl.Prog{}
		for range 100 {
			p.Funcs = append(p.Funcs, function(1, code...))
		}
		made, e := linear.Flatten(p)
		if e != api.OK || made.Text() == "" {
			t.Fatalf("P18.1: Flatten of a great one: %d", e)
		}
		if g, e := linear.Tunnel(p.Funcs[0]); e != api.OK || len(g.Code) != most {
			t.Errorf("P18.2: Tunnel of a great one: %d", e)
		}
	}
	if took := time.Since(begin); took > 30*time.Second {
		t.Errorf("R1: great programs take %v", took)
	}
	if got := body(flat(t, rtl.Prog{Funcs: []rtl.Func{function(0, nops...)}})); got != "return" {
		t.Errorf("P18.1: a row of Nops: %.300s", got)
	}
}
