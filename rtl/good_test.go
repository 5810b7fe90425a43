package rtl

import (
	"fmt"
	"math/rand"
	"slices"
	"strings"
	"testing"

	"plumbob/api"
)

// asked has what chapter 12's table names of each Op: A, B, D registers, lower case: or -1; nodes S, T.
var asked = map[int]string{
	Nop: "S", Const: "D S", Copy: "A D S", Un: "un A D S", Bin: "bin A b D S", Load: "chunk A D S", Store: "chunk A B S", Global: "global D S", Frame: "frame D S",
	Call: "call d S", Cond: "cond A b S T", Return: "a", In: "D S", Out: "A S",
}

// The program around the instruction that is asked of: two globals, three functions with 1, 0 and 2 parameters.
const (
	regs  = 3
	nodes = 4
	frame = 16
)

func around(i Instr) Prog {
	code := []Instr{{Op: Return, A: none}, i, {Op: Return, A: none}, {Op: Return, A: none}}
	return Prog{Globals: []int{8, 0}, Main: 1, Funcs: []Func{
		{Name: "f", Params: []int{2}, Regs: regs, Frame: frame, Entry: 1, Code: code},
		{Name: "g", Code: []Instr{{Op: Return, A: none}}},
		{Name: "h", Params: []int{1, 0}, Regs: 2, Code: []Instr{{Op: Return, A: none}}},
	}}
}

// fits tells whether one thing that is asked of an instruction holds.
func fits(what string, i Instr) bool {
	register := func(r int) bool { return r >= 0 && r < regs }
	switch what {
	case "A":
		return register(i.A)
	case "a":
		return i.A == -1 || register(i.A)
	case "B":
		return register(i.B)
	case "b":
		return i.B == -1 || register(i.B)
	case "D":
		return register(i.D)
	case "d":
		return i.D == -1 || register(i.D)
	case "S":
		return i.S >= 0 && i.S < nodes
	case "T":
		return i.T >= 0 && i.T < nodes
	case "un":
		return i.Sub >= 1 && i.Sub <= 4
	case "bin":
		return i.Sub >= 11 && i.Sub <= 26
	case "cond":
		return i.Sub >= 21 && i.Sub <= 26
	case "chunk":
		return i.Sub == 1 || i.Sub == 4 || i.Sub == 8
	case "global":
		return i.Sub == 0 && i.K >= 0 && i.K <= 8 || i.Sub == 1 && i.K == 0
	case "frame":
		return i.K >= 0 && i.K <= frame
	}
	count, ok := map[int]int{0: 1, 1: 0, 2: 2}[i.Sub]
	return ok && len(i.Args) == count && !slices.ContainsFunc(i.Args, func(r int) bool { return !register(r) })
}

func fitsAll(i Instr) bool {
	whats, ok := asked[i.Op]
	for _, what := range strings.Fields(whats) {
		ok = ok && fits(what, i)
	}
	return ok
}

// fitsAlone tells whether all holds that is asked of an instruction where other functions and globals are not known.
func fitsAlone(i Instr) bool {
	switch i.Op {
	case Global:
		i.Sub, i.K = 0, 0
	case Call:
		if slices.ContainsFunc(i.Args, func(r int) bool { return r < 0 || r >= regs }) {
			return false
		}
		i.Sub, i.Args = 1, nil
	}
	return fitsAll(i)
}

// numbers are those at the edges of all that is asked.
var numbers = []int{lowest, -3, -2, -1, 0, 1, 2, 3, 4, 5, 7, 8, 9, 10, 11, 15, 16, 17, 20, 21, 26, 27, 99, 5000, 1 << 32, 1<<32 + 1, highest}

var lists = [][]int{nil, {}, {0}, {2}, {3}, {-1}, {-2}, {0, 0}, {2, 1}, {1, 3}, {1, -1}, {-1, 1}, {3, 1}, {0, 1, 2}, {lowest, highest}}

// right is an instruction of an Op that may be.
func right(op int) Instr {
	i := Instr{Op: op, A: 1, B: 2, D: 0, S: 2, T: 3}
	switch {
	case op == Un:
		i.Sub = api.Not
	case op == Bin || op == Cond:
		i.Sub = api.Lt
	case op == Load || op == Store:
		i.Sub = 4
	case op == Call:
		i.Sub, i.Args = 2, []int{1, 1}
	}
	return i
}

func good(t *testing.T, i Instr) {
	t.Helper()
	p := around(i)
	want := fitsAll(i)
	if got := Good(p); got != want {
		t.Errorf("P12.1: Good with %+v: %t", i, got)
	}
	if got := Right(p.Funcs[0]); got != fitsAlone(i) {
		t.Errorf("P13.2: Right with %+v: %t", i, got)
	}
	r, e := Run(p, nil, nil, 10)
	if want && (e != api.OK || r.Kind != api.Stuck) || !want && (e != api.EARG || fmt.Sprint(r) != fmt.Sprint(api.Run{})) {
		t.Errorf("P12.1: Run with %+v: %d, %s", i, e, told(r))
	}
}

// TestGoodFields has each field of each Op, by itself, at all edges; and all of them together by chance.
func TestGoodFields(t *testing.T) {
	for op := range asked {
		if !fitsAll(right(op)) {
			t.Fatalf("the instruction of Op %d is not right", op)
		}
		good(t, right(op))
		for _, n := range numbers {
			for field := range 7 {
				i := right(op)
				set(&i, field, n)
				good(t, i)
			}
		}
		for _, args := range lists {
			for sub := -1; sub <= 3; sub++ {
				i := right(op)
				i.Args = args
				if op == Call {
					i.Sub = sub
				}
				good(t, i)
			}
		}
	}
	for _, n := range append([]int{12, 13, 14}, numbers...) {
		good(t, Instr{Op: n})
	}
	r := rand.New(rand.NewSource(1))
	count := 0
	for range 30000 {
		i := right(1 + r.Intn(14))
		i.Args = lists[r.Intn(len(lists))]
		for range r.Intn(4) {
			set(&i, r.Intn(7), numbers[r.Intn(len(numbers))])
		}
		good(t, i)
		if fitsAll(i) {
			count++
		}
	}
	if count < 5000 || count > 25000 {
		t.Errorf("%d of 30000 are well formed", count)
	}
}

func set(i *Instr, field, n int) {
	if field == 6 {
		i.K = int64(n)
		return
	}
	*[]*int{&i.Sub, &i.A, &i.B, &i.D, &i.S, &i.T}[field] = n
}

// TestGoodProgram has each rule of programs and functions, kept at its edge and broken.
func TestGoodProgram(t *testing.T) {
	code := []Instr{{Op: Return, A: none}}
	many := func(count int) []int {
		l := make([]int, count)
		for n := range l {
			l[n] = n
		}
		return l
	}
	for _, c := range []struct {
		name   string
		change func(p *Prog)
		want   bool
	}{
		{"as it is", func(p *Prog) {}, true},
		{"main 2", func(p *Prog) { p.Main = 2 }, true},
		{"main 3", func(p *Prog) { p.Main = 3 }, false},
		{"main -1", func(p *Prog) { p.Main = -1 }, false},
		{"main far", func(p *Prog) { p.Main = highest }, false},
		{"no functions", func(p *Prog) { p.Funcs = nil; p.Main = 0 }, false},
		{"no functions, main -1", func(p *Prog) { p.Funcs = nil; p.Main = -1 }, false},
		{"no globals", func(p *Prog) { p.Globals = nil }, true},
		{"a global of no bytes", func(p *Prog) { p.Globals[1] = 0 }, true},
		{"a global of 65536", func(p *Prog) { p.Globals[1] = 65536 }, true},
		{"a global of 65537", func(p *Prog) { p.Globals[1] = 65537 }, false},
		{"a global of -1", func(p *Prog) { p.Globals[1] = -1 }, false},
		{"a global of the most", func(p *Prog) { p.Globals[1] = highest }, false},
		{"the first global of -1", func(p *Prog) { p.Globals[0] = -1 }, false},
		{"200 globals", func(p *Prog) { p.Globals = make([]int, 200) }, true},
		{"201 globals", func(p *Prog) { p.Globals = make([]int, 201) }, false},
		{"100 functions", func(p *Prog) { p.Funcs = slices.Repeat(p.Funcs[1:2], 100) }, true},
		{"101 functions", func(p *Prog) { p.Funcs = slices.Repeat(p.Funcs[1:2], 101) }, false},
		{"a frame of no bytes", func(p *Prog) { p.Funcs[1].Frame = 0 }, true},
		{"a frame of 65536", func(p *Prog) { p.Funcs[1].Frame = 65536 }, true},
		{"a frame of 65537", func(p *Prog) { p.Funcs[1].Frame = 65537 }, false},
		{"a frame of -1", func(p *Prog) { p.Funcs[1].Frame = -1 }, false},
		{"the entry 3", func(p *Prog) { p.Funcs[0].Entry = 3 }, true},
		{"the entry 4", func(p *Prog) { p.Funcs[0].Entry = 4 }, false},
		{"the entry -1", func(p *Prog) { p.Funcs[0].Entry = -1 }, false},
		{"the last function's entry 1", func(p *Prog) { p.Funcs[2].Entry = 1 }, false},
		{"no code", func(p *Prog) { p.Funcs[2].Code = nil }, false},
		{"no code, the entry -1", func(p *Prog) { p.Funcs[2].Code, p.Funcs[2].Entry = nil, -1 }, false},
		{"5000 nodes", func(p *Prog) { p.Funcs[2].Code = slices.Repeat(code, 5000) }, true},
		{"5001 nodes", func(p *Prog) { p.Funcs[2].Code = slices.Repeat(code, 5001) }, false},
		{"5000 registers", func(p *Prog) { p.Funcs[2].Regs = 5000 }, true},
		{"5001 registers", func(p *Prog) { p.Funcs[2].Regs = 5001 }, false},
		{"the most registers", func(p *Prog) { p.Funcs[2].Regs = highest }, false},
		{"-1 registers", func(p *Prog) { p.Funcs[1].Regs = -1 }, false},
		{"the least registers", func(p *Prog) { p.Funcs[1].Regs = lowest }, false},
		{"too few registers for the parameters", func(p *Prog) { p.Funcs[2].Regs = 1 }, false},
		{"parameters alike", func(p *Prog) { p.Funcs[2].Params = []int{1, 1} }, false},
		{"parameters alike, apart", func(p *Prog) { p.Funcs[1] = Func{Params: []int{1, 0, 1}, Regs: 2, Code: code} }, false},
		{"a parameter of -1", func(p *Prog) { p.Funcs[0].Params = []int{-1} }, false},
		{"a parameter of -2", func(p *Prog) { p.Funcs[0].Params = []int{-2} }, false},
		{"a parameter of Regs - 1", func(p *Prog) { p.Funcs[0].Params = []int{2} }, true},
		{"a parameter of Regs", func(p *Prog) { p.Funcs[0].Params = []int{3} }, false},
		{"5000 parameters", func(p *Prog) { p.Funcs[1] = Func{Params: many(5000), Regs: 5000, Code: code} }, true},
		{"5001 parameters", func(p *Prog) { p.Funcs[1] = Func{Params: many(5001), Regs: 5000, Code: code} }, false},
		{"a node of the last function", func(p *Prog) { p.Funcs[2].Code = []Instr{{Op: Nop, S: 1}} }, false},
		{"a node that is not reached", func(p *Prog) { p.Funcs[1].Code = append(slices.Clone(code), Instr{Op: 15}) }, false},
		{"a function that is not called", func(p *Prog) { p.Funcs = append(p.Funcs, Func{}) }, false},
		{"names alike, and of any bytes", func(p *Prog) { p.Funcs[0].Name, p.Funcs[1].Name, p.Funcs[2].Name = "\xff\x00", "\xff\x00", "" }, true},
		{"another function's frame", func(p *Prog) { p.Funcs[1].Code = row(Instr{Op: Frame, K: 1}, Instr{Op: Return}); p.Funcs[1].Regs = 1 }, false},
		{"another function's registers", func(p *Prog) { p.Funcs[1].Code = []Instr{{Op: Return, A: 0}} }, false},
	} {
		p := around(right(Bin))
		c.change(&p)
		if got := Good(p); got != c.want {
			t.Errorf("P12.1: Good of a program with %s: %t", c.name, got)
		}
		args := []int64{}
		if p.Main >= 0 && p.Main < len(p.Funcs) {
			args = make([]int64, len(p.Funcs[p.Main].Params))
		}
		if _, e := Run(p, args, nil, 5); (e == api.OK) != c.want || e != api.OK && e != api.EARG {
			t.Errorf("P12.1: Run of a program with %s: %d", c.name, e)
		}
	}
}

// TestFits has a function's sizes at their edges; whether it is well formed else is not asked.
func TestFits(t *testing.T) {
	for _, c := range []struct {
		f    Func
		want bool
	}{
		{Func{}, true}, {Func{Regs: 5000, Frame: 65536, Code: make([]Instr, 5000)}, true}, {Func{Entry: -7, Params: []int{9, 9}}, true},
		{Func{Regs: 5001}, false}, {Func{Regs: -1}, false}, {Func{Frame: 65537}, false}, {Func{Frame: -1}, false}, {Func{Code: make([]Instr, 5001)}, false}, {Func{Regs: highest}, false}, {Func{Frame: lowest}, false},
	} {
		if Fits(c.f) != c.want {
			t.Errorf("P13.1: Fits with %d registers, %d bytes and %d nodes: %t", c.f.Regs, c.f.Frame, len(c.f.Code), !c.want)
		}
	}
}
