package alloc

import (
	"fmt"
	"slices"
	"testing"

	"plumbob/api"
	"plumbob/rtl"
)

// roomy is a program whose lists have room behind them, and those of two nodes, and of two functions, are one; and what tells all of that.
func roomy() (p rtl.Prog, tell func() string) {
	shared := []int{1, 0, 77, 78}
	code := row(constant(2, 5), callOf(0, -1, 1, 0), fixed(api.Add, 2, 7, 3), callOf(1, 2, 0, 1), copied(0, 1), add(1, 2, 3), leave(3), nothing(2))
	code[1].Args, code[3].Args = shared[:2], shared[:2]
	params, globals := []int{1, 0, 79}, []int{8, 9, 10}
	f := rtl.Func{Name: "f", Params: params[:2], Regs: 4, Frame: 8, Code: code[:7]}
	funcs := []rtl.Func{f, f, {Name: "behind"}}
	p = rtl.Prog{Globals: globals[:2], Funcs: funcs[:2], Main: 1}
	return p, func() string { return fmt.Sprint(p, shared, code, params, globals, funcs) }
}

// lists are all lists of numbers in some functions.
func lists(l []rtl.Func) [][]int {
	var all [][]int
	for _, f := range l {
		all = append(all, f.Params)
		for _, i := range f.Code {
			all = append(all, i.Args)
		}
	}
	return all
}

// spoil changes all numbers of some lists, and the room behind them.
func spoil(l [][]int) {
	for _, numbers := range l {
		numbers = numbers[:cap(numbers)]
		for i := range numbers {
			numbers[i] -= 1000
		}
	}
}

// TestNewMemory: what is handed in is not changed, spare room included; what is answered is new memory, each list by itself.
func TestNewMemory(t *testing.T) {
	p, tell := roomy()
	before := tell()
	first, e := Allocate(p)
	second, _ := Allocate(p)
	answer := fmt.Sprint(second)
	if tell() != before || e != api.OK || fmt.Sprint(first) != answer {
		t.Errorf("R4: Allocate of %s: %s (%d), and it is %s", before, answer, e, tell())
	}
	all := append(lists(first.Funcs), first.Globals)
	var want [][]int
	for _, numbers := range all {
		numbers = slices.Clone(numbers)
		for i := range numbers {
			numbers[i] -= 1000
		}
		want = append(want, numbers)
	}
	spoil(all)
	if fmt.Sprint(all) != fmt.Sprint(want) {
		t.Errorf("R4: Allocate: lists of one answer share memory: %s, and changed %v", answer, all)
	}
	for _, f := range first.Funcs {
		clear(f.Code[:cap(f.Code)])
	}
	clear(first.Funcs[:cap(first.Funcs)])
	third, _ := Allocate(p)
	if tell() != before || fmt.Sprint(second) != answer || fmt.Sprint(third) != answer {
		t.Errorf("R4: Allocate: what is done to an answer changes another, or what was handed in: %s, it was %s", tell(), before)
	}
	spoil(append(lists(p.Funcs[:1]), p.Globals))
	clear(p.Funcs[0].Code)
	clear(p.Funcs)
	if fmt.Sprint(second) != answer {
		t.Errorf("R4: Allocate: what is answered hangs on what was handed in: %v, it was %s", second, answer)
	}
}

func TestNewGivings(t *testing.T) {
	p, tell := roomy()
	before := tell()
	f := p.Funcs[0]
	first, e := Colour(f)
	second, _ := Colour(f)
	answer := fmt.Sprint(second)
	room := append(slices.Clone(second), 5, 6)
	if !Valid(f, room[:4]) || Valid(f, room[:5]) || !slices.Equal(room[4:], []int{5, 6}) || Spills(room[:4]) != Spills(second) || fmt.Sprint(room[:4]) != answer || e != api.OK {
		t.Errorf("R4: Colour: %s, and with room behind %v (%d)", answer, room, e)
	}
	spoil([][]int{first})
	third, _ := Colour(f)
	if tell() != before || fmt.Sprint(second) != answer || fmt.Sprint(third) != answer {
		t.Errorf("R4: Colour: %s, it was %s; %v, it was %s", tell(), before, second, answer)
	}
	spoil(lists(p.Funcs[:1]))
	if fmt.Sprint(second) != answer {
		t.Errorf("R4: Colour: %v, it was %s", second, answer)
	}
}
