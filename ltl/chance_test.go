package ltl_test

import (
	"fmt"
	"math/rand"
	"slices"
	"testing"

	"plumbob/api"
	"plumbob/graphs"
	"plumbob/ltl"
	"plumbob/model"
	"plumbob/rtl"
	"plumbob/trace"
)

var edges = []int64{0, 1, 2, 3, 7, 8, 63, 64, 127, 128, 255, 1 << 31, 1 << 32, 1 << 62, highest, -1, -2, -7, -8, -128, -129, -1 << 31, lowest}

// somes are numbers by chance.
func somes(r *rand.Rand, count int) []int64 {
	list := []int64{}
	for range count {
		list = append(list, edges[r.Intn(len(edges))])
	}
	return list
}

// shuffled has some locations in another order.
func shuffled(r *rand.Rand, l []int) []int {
	l = slices.Clone(l)
	r.Shuffle(len(l), func(a, b int) { l[a], l[b] = l[b], l[a] })
	return l
}

// in tells the location of a register: one of a list, or a slot behind those, if there are more.
func in(l []int) func(int) int {
	return func(register int) int {
		if register < len(l) {
			return l[register]
		}
		return 40 + register
	}
}

// same asks that a run is as the model's.
func same(t *testing.T, p rtl.Prog, args, world []int64, fuel int) api.Run {
	t.Helper()
	r, e := ltl.Run(p, args, world, fuel)
	if want := model.Run(p, isLost, args, world, fuel); e != api.OK || fmt.Sprint(r) != fmt.Sprint(want) {
		t.Errorf("P16.1: %s%v, %v with fuel %d: %.3000v (%d), want %.3000v", rtl.Text(p), args, world, fuel, r, e, want)
	}
	return r
}

// TestRunByChance holds programs made by chance, over locations of any kind, against the model, at many fuels.
func TestRunByChance(t *testing.T) {
	ends, lost := map[int]int{}, 0
	for seed := range int64(3000) {
		r := rand.New(rand.NewSource(seed))
		source := graphs.New(r.Intn, []int{0, 10, 40}[seed%3]).Program()
		p := graphs.Located(source, in(shuffled(r, nameable([]int{16, 24, 40}[r.Intn(3)]))))
		if !ltl.Good(p) {
			t.Fatalf("P16.1: Good of %s", rtl.Text(p))
		}
		for range 3 {
			args, world := somes(r, len(p.Funcs[p.Main].Params)), somes(r, r.Intn(6))
			last := same(t, p, args, world, 3000)
			ends[last.Kind]++
			for range 5 {
				same(t, p, args, world, r.Intn(last.Steps+2))
			}
			any := graphs.Scrambled(r.Intn, p)
			if other, e := ltl.Run(any, args, world, 3000); e != api.OK || !trace.Same(other, last) || !trace.Leaks(other, last) || other.Steps != last.Steps {
				t.Errorf("P16.1: %swith any number where none is asked: %.3000v (%d), want %.3000v", rtl.Text(any), other, e, last)
			}
			if before, _ := rtl.Run(p, args, world, 3000); fmt.Sprint(before) != fmt.Sprint(last) {
				lost++
			}
		}
	}
	t.Logf("ends %v, %d do not what they do as chapter 12's", ends, lost)
	if ends[api.Halt] < 2000 || ends[api.Stuck] < 2000 || ends[api.Fuel] < 50 || lost < 1000 {
		t.Errorf("P16.1: the programs made by chance end %v, %d hang on what is lost", ends, lost)
	}
}

// TestWildByChance: graphs whose nodes go on anywhere, over few locations.
func TestWildByChance(t *testing.T) {
	ends, calls := map[int]int{}, 0
	for seed := range int64(20000) {
		r := rand.New(rand.NewSource(seed))
		p := graphs.Renamed(graphs.Wild(r.Intn, 0), in(shuffled(r, [][]int{{0, 7, 6}, {0, 7, 3}, {0, 7, 6, 3, 16}}[r.Intn(3)])))
		if !ltl.Good(p) {
			t.Fatalf("P16.1: Good of %s", rtl.Text(p))
		}
		last := same(t, p, somes(r, len(p.Funcs[p.Main].Params)), somes(r, 3), r.Intn(300))
		ends[last.Kind]++
		if slices.ContainsFunc(last.Leaks, func(l api.Leak) bool { return l.Kind == api.Call }) {
			calls++
		}
	}
	t.Logf("ends %v, %d with calls", ends, calls)
	if ends[api.Halt] < 100 || ends[api.Stuck] < 5000 || ends[api.Fuel] < 500 || calls < 2000 {
		t.Errorf("P16.1: the wild programs end %v, %d with calls", ends, calls)
	}
}

// TestKeptByChance: over locations that are all kept, a program does and leaks what it does as chapter 12's.
func TestKeptByChance(t *testing.T) {
	ends := map[int]int{}
	for seed := range int64(2000) {
		r := rand.New(rand.NewSource(seed))
		p := graphs.New(r.Intn, []int{0, 40}[seed%2]).Program()
		at := in(append(shuffled(r, append(slices.Clone(kept), 16, 17, 30)), 18, 19))
		located := graphs.Located(p, at)
		args, world := somes(r, len(p.Funcs[p.Main].Params)), somes(r, r.Intn(6))
		want, _ := rtl.Run(p, args, world, 100000)
		got, e := ltl.Run(located, args, world, 1000000)
		ends[want.Kind]++
		if want.Kind != api.Fuel && (e != api.OK || !trace.Same(got, want) || !trace.Leaks(got, want)) {
			t.Errorf("P16.1: %s%v, %v: %.3000v (%d), want %.3000v as of %s", rtl.Text(located), args, world, got, e, want, rtl.Text(p))
		}
	}
	if ends[api.Halt] < 1500 || ends[api.Stuck] < 100 {
		t.Errorf("P16.1: the programs made by chance end %v", ends)
	}
}

// roomy is a program whose lists have room behind them, those of two calls one list; and what tells all of that.
func roomy() (p rtl.Prog, tell func() string) {
	shared, params, globals := []int{7, 6, 77}, []int{7, 6, 78}, []int{8, 16, 79}
	calls := function(2, call(1, 2), test(api.Gt, 0, 5, 4), output(0), leave(), call(1, 2), leave())
	calls.Code[0].Args, calls.Code[4].Args = shared[:2], shared[:2]
	code := append(calls.Code, rtl.Instr{Op: 99})
	calls.Params, calls.Code = params[:2], code[:6]
	adds := function(2, rtl.Instr{Op: rtl.Bin, Sub: api.Add, A: 7, B: 6, D: 0}, constant(6, 3), leave())
	funcs := []rtl.Func{calls, adds, {Name: "behind"}}
	p = rtl.Prog{Globals: globals[:2], Funcs: funcs[:2]}
	return p, func() string { return fmt.Sprint(p, shared, params, globals, code, funcs) }
}

// TestNothingChanges: what is handed in stays as it was, room behind it too, and what is answered is new each time.
func TestNothingChanges(t *testing.T) {
	p, tell := roomy()
	before := tell()
	args, world := []int64{3, 4, 55}, []int64{1, 2, 66}
	first, e := ltl.Run(p, args[:2], world[:2], 100)
	if !ltl.Good(p) || e != api.OK || told(first) != "out 7|halt 7|call1,0 branch1,0 7" {
		t.Fatalf("P16.1: Run of %s: %s (%d)", rtl.Text(p), told(first), e)
	}
	if tell() != before || fmt.Sprint(args, world) != "[3 4 55] [1 2 66]" {
		t.Errorf("R4: %s, %v, %v, and it was %s", tell(), args, world, before)
	}
	second, _ := ltl.Run(p, args[:2], world[:2], 100)
	clear(second.Leaks[:cap(second.Leaks)])
	clear(second.Events[:cap(second.Events)])
	third, _ := ltl.Run(p, args[:2], world[:2], 100)
	if told(first) != "out 7|halt 7|call1,0 branch1,0 7" || told(third) != told(first) {
		t.Errorf("R4: what is done to an answer changes others: %s, %s", told(first), told(third))
	}
	// What is done to what was handed in makes no difference, and is seen by the next call alone.
	p.Funcs[1].Params[0] = 6
	if ltl.Good(p) || told(first) != told(third) {
		t.Errorf("R5: Good of a program that was changed")
	}
}

// TestOne: nil and an empty list are one, and what stands behind what is asked makes no difference.
func TestOne(t *testing.T) {
	p := rtl.Prog{Funcs: []rtl.Func{{Regs: 16, Code: []rtl.Instr{constant(0, 4), leave()}}}}
	p.Funcs[0].Code[0].S = 1
	q := rtl.Prog{Globals: []int{}, Funcs: []rtl.Func{{Params: []int{}, Regs: 16, Code: []rtl.Instr{{Op: rtl.Const, K: 4, S: 1, Args: []int{}}, {Op: rtl.Return, Args: []int{}}}}}}
	for _, p := range []rtl.Prog{p, q} {
		for _, l := range [][]int64{nil, {}} {
			if r, e := ltl.Run(p, l, l, 9); e != api.OK || told(r) != "halt 4|2" || !ltl.Good(p) {
				t.Errorf("R4: Run of %s: %s (%d)", rtl.Text(p), told(r), e)
			}
		}
	}
}
