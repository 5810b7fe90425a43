package opt

import (
	"fmt"
	"slices"
	"testing"

	"plumbob/api"
	"plumbob/rtl"
)

// roomy is a program whose lists have room behind them, and those of two nodes, and of two functions, are one; and what tells all of that.
func roomy() (p rtl.Prog, tell func() string) {
	shared := []int{1, 0, 77, 78}
	code := []rtl.Instr{constant(2, 5, 1), {Op: rtl.Call, Args: shared[:2], D: -1, S: 2}, test(api.Eq, 2, 5, 3, 1), {Op: rtl.Call, Args: shared[:2], D: 2, S: 4}, fixed(api.Add, 1, 1, 2, 5), fixed(api.Add, 1, 1, 3, 6), leave(3), nothing(2)}
	params, globals := []int{1, 0, 79}, []int{8, 9, 10}
	f := rtl.Func{Name: "f", Params: params[:2], Regs: 4, Code: code[:7]}
	funcs := []rtl.Func{f, f, {Name: "behind"}}
	p = rtl.Prog{Globals: globals[:2], Funcs: funcs[:2], Main: 1}
	return p, func() string { return fmt.Sprint(p, shared, code, params, globals, funcs) }
}

// lists are all lists of numbers in some functions.
func lists(l []rtl.Func) [][]int {
	var all [][]int
	for _, f := range l {
		all = append(all, f.Params)
		for _, i := range f.Code {
			all = append(all, i.Args)
		}
	}
	return all
}

// spoil changes all numbers of some lists, and the room behind them.
func spoil(l [][]int) {
	for _, numbers := range l {
		numbers = numbers[:cap(numbers)]
		for i := range numbers {
			numbers[i] -= 1000
		}
	}
}

// areAlone asks that each list has its own memory: when each number is changed once, it is so once.
func areAlone(t *testing.T, what string, l [][]int) {
	t.Helper()
	before := fmt.Sprint(l)
	want := [][]int{}
	for _, numbers := range l {
		numbers = slices.Clone(numbers)
		for i := range numbers {
			numbers[i] -= 1000
		}
		want = append(want, numbers)
	}
	spoil(l)
	if fmt.Sprint(l) != fmt.Sprint(want) {
		t.Errorf("R4: %s: lists of one answer share memory: %s, and changed %v", what, before, l)
	}
}

// TestNewMemory: what is handed in is not changed, spare room included; what is answered is new memory, each list by itself.
func TestNewMemory(t *testing.T) {
	calls := map[string]func(rtl.Prog) rtl.Prog{}
	for _, pass := range passes() {
		calls[pass.name] = func(p rtl.Prog) rtl.Prog {
			q := p
			q.Globals, q.Funcs = slices.Clone(p.Globals), nil
			for _, f := range p.Funcs {
				g, _ := pass.call(f)
				q.Funcs = append(q.Funcs, g)
			}
			return q
		}
	}
	calls["All"] = func(p rtl.Prog) rtl.Prog { q, _ := All(p); return q }
	for _, n := range []int{0, 1, 10} {
		calls[fmt.Sprintf("Rounds(%d)", n)] = func(p rtl.Prog) rtl.Prog { q, _ := Rounds(p, n); return q }
	}
	for name, call := range calls {
		p, tell := roomy()
		before := tell()
		first, second := call(p), call(p)
		answer := fmt.Sprint(second)
		if tell() != before || len(second.Funcs) != 2 || len(second.Funcs[1].Code) < 4 {
			t.Errorf("R4: %s of %s: %s, and it is %s", name, before, answer, tell())
		}
		areAlone(t, name, append(lists(first.Funcs), first.Globals))
		for _, f := range first.Funcs {
			clear(f.Code[:cap(f.Code)])
		}
		clear(first.Funcs[:cap(first.Funcs)])
		if tell() != before || fmt.Sprint(second) != answer || fmt.Sprint(call(p)) != answer {
			t.Errorf("R4: %s: what is done to an answer changes another, or what was handed in: %s, it was %s", name, tell(), before)
		}
		spoil(append(lists(p.Funcs[:1]), p.Globals))
		clear(p.Funcs[0].Code)
		clear(p.Funcs)
		if fmt.Sprint(second) != answer {
			t.Errorf("R4: %s: what is answered hangs on what was handed in: %v, it was %s", name, second, answer)
		}
	}
}
