package opt

import (
	"math/rand"
	"slices"
	"testing"

	"plumbob/api"
	"plumbob/graphs"
	"plumbob/rtl"
)

// takes asks that all calls take a function, or that all refuse it.
func takes(t *testing.T, what string, f rtl.Func, isRight bool) {
	t.Helper()
	before := dump(f)
	for _, p := range passes() {
		got, e := p.call(f)
		if isRight && (e != api.OK || !rtl.Right(got) || len(got.Code) != len(f.Code) || got.Entry != f.Entry || got.Regs != f.Regs) || !isRight && (e != api.EARG || dump(got) != dump(rtl.Func{})) {
			t.Errorf("P15.1: %s of a function with %s, %.500s: %.500s (%d)", p.name, what, before, dump(got), e)
		}
	}
	for _, beside := range []rtl.Prog{{Globals: []int{9}, Funcs: []rtl.Func{f}}, {Funcs: []rtl.Func{{Code: []rtl.Instr{leave(-1)}}, f}}} {
		takesProgram(t, what, beside, rtl.Good(beside))
		if rtl.Good(beside) && !isRight {
			t.Errorf("P12.1: Good of a function with %s, %.500s", what, before)
		}
	}
	if dump(f) != before {
		t.Errorf("R4: a function with %s, %.500s: it is changed: %.500s", what, before, dump(f))
	}
}

// takesProgram asks that All and Rounds take a program, or that both refuse it.
func takesProgram(t *testing.T, what string, p rtl.Prog, isGood bool) {
	t.Helper()
	before := rtl.Text(p)
	for n := -1; n < 3; n++ {
		got, e := Rounds(p, n)
		if n < 0 {
			got, e = All(p)
		}
		if isGood && (e != api.OK || !rtl.Good(got) || got.Main != p.Main || !slices.Equal(got.Globals, p.Globals) || len(got.Funcs) != len(p.Funcs)) || !isGood && (e != api.EARG || rtl.Text(got) != rtl.Text(rtl.Prog{})) {
			t.Errorf("P15.1: All, Rounds(%d) of a program with %s, %.500s: %.500s (%d)", n, what, before, rtl.Text(got), e)
		}
	}
	if rtl.Text(p) != before {
		t.Errorf("R4: a program with %s, %.500s: it is changed: %.500s", what, before, rtl.Text(p))
	}
}

func TestRefusals(t *testing.T) {
	for _, c := range graphs.Cases() {
		takes(t, c.Name, c.Func, c.IsRight)
	}
}

// TestRefusalsByChance has functions with some fields of any kind.
func TestRefusalsByChance(t *testing.T) {
	count := map[bool]int{}
	for seed := range int64(5000) {
		f := graphs.Broken(rand.New(rand.NewSource(seed)).Intn)
		takes(t, "any number", f, rtl.Right(f))
		count[rtl.Right(f)]++
	}
	if count[true] < 1000 || count[false] < 1000 {
		t.Errorf("P15.1: right, wrong: %v", count)
	}
}

// TestProgramsRefused has programs at the edges of what is well formed.
func TestProgramsRefused(t *testing.T) {
	end := rtl.Func{Code: []rtl.Instr{leave(-1)}}
	one := []rtl.Func{end}
	of := func(i rtl.Instr) []rtl.Func {
		return []rtl.Func{{Params: []int{0}, Regs: 1, Code: []rtl.Instr{i, leave(-1)}}}
	}
	for _, c := range []struct {
		name   string
		p      rtl.Prog
		isGood bool
	}{
		{"nothing", rtl.Prog{}, false}, {"one function", rtl.Prog{Funcs: one}, true},
		{"main -1", rtl.Prog{Funcs: one, Main: -1}, false}, {"main 1 of 1", rtl.Prog{Funcs: one, Main: 1}, false}, {"the greatest main", rtl.Prog{Funcs: one, Main: highest}, false}, {"main 1 of 2", rtl.Prog{Funcs: []rtl.Func{end, end}, Main: 1}, true},
		{"100 functions", rtl.Prog{Funcs: slices.Repeat(one, 100)}, true}, {"101 functions", rtl.Prog{Funcs: slices.Repeat(one, 101)}, false},
		{"200 globals", rtl.Prog{Funcs: one, Globals: make([]int, 200)}, true}, {"201 globals", rtl.Prog{Funcs: one, Globals: make([]int, 201)}, false},
		{"a global of 65536", rtl.Prog{Funcs: one, Globals: []int{0, 65536}}, true}, {"a global of 65537", rtl.Prog{Funcs: one, Globals: []int{65537, 0}}, false}, {"a global of -1", rtl.Prog{Funcs: one, Globals: []int{-1}}, false},
		{"a wrong function behind", rtl.Prog{Funcs: []rtl.Func{end, {}}}, false}, {"a wrong function ahead", rtl.Prog{Funcs: []rtl.Func{{}, end}, Main: 1}, false},
		{"a call with one argument", rtl.Prog{Funcs: of(call(-1, 1, 0))}, true}, {"a call with none", rtl.Prog{Funcs: of(call(-1, 1))}, false}, {"a call with two", rtl.Prog{Funcs: of(call(-1, 1, 0, 0))}, false},
		{"a call of none", rtl.Prog{Funcs: of(rtl.Instr{Op: rtl.Call, Sub: 1, Args: []int{0}, S: 1})}, false}, {"a call of -1", rtl.Prog{Funcs: of(rtl.Instr{Op: rtl.Call, Sub: -1, Args: []int{0}, S: 1})}, false},
		{"a global's end", rtl.Prog{Funcs: of(global(0, 7, 0, 1)), Globals: []int{7}}, true}, {"behind a global's end", rtl.Prog{Funcs: of(global(0, 8, 0, 1)), Globals: []int{7}}, false}, {"ahead of a global", rtl.Prog{Funcs: of(global(0, -1, 0, 1)), Globals: []int{7}}, false}, {"no such global", rtl.Prog{Funcs: of(global(1, 0, 0, 1)), Globals: []int{7}}, false},
	} {
		takesProgram(t, c.name, c.p, c.isGood)
	}
}
