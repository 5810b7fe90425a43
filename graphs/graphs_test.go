package graphs

import (
	"math/rand"
	"testing"

	"plumbob/api"
	"plumbob/ltl"
	"plumbob/rtl"
	"plumbob/trace"
)

func made(seed int64, slips int) rtl.Prog {
	return New(rand.New(rand.NewSource(seed)).Intn, slips).Program()
}

// TestPrograms: all are well formed; of the same choices they are the same; all together have each Op; and without slips none is Stuck.
func TestPrograms(t *testing.T) {
	seen := map[int]int{}
	ends := map[int]int{}
	for seed := range int64(2000) {
		slips := []int{0, 12, 60}[seed%3]
		p := made(seed, slips)
		if !rtl.Good(p) {
			t.Fatalf("not well formed: %s", rtl.Text(p))
		}
		if rtl.Text(made(seed, slips)) != rtl.Text(p) {
			t.Fatalf("%s, and once more it is another", rtl.Text(p))
		}
		for _, f := range p.Funcs {
			for _, i := range f.Code {
				seen[i.Op]++
			}
		}
		r, e := rtl.Run(p, make([]int64, len(p.Funcs[p.Main].Params)), []int64{1, 2, 3}, 10000)
		if e != api.OK || slips == 0 && r.Kind != api.Halt {
			t.Fatalf("%s: it ends with %d", rtl.Text(p), r.Kind)
		}
		if slips > 0 {
			ends[r.Kind]++
		}
	}
	for op := rtl.Nop; op <= rtl.Out; op++ {
		if seen[op] < 200 {
			t.Errorf("%d instructions with Op %d", seen[op], op)
		}
	}
	t.Logf("ends %v, instructions %v", ends, seen)
	if ends[api.Halt] < 400 || ends[api.Stuck] < 200 || ends[api.Fuel] < 1 {
		t.Errorf("with slips they end %v", ends)
	}
}

// reckonings counts the instructions of a program that reckon the same as another one of their function.
func reckonings(p rtl.Prog) int {
	count := 0
	for _, f := range p.Funcs {
		seen := map[[5]int]int{}
		for _, i := range f.Code {
			switch i.Op {
			case rtl.Un, rtl.Bin, rtl.Load, rtl.Global, rtl.Frame:
				key := [5]int{i.Op, i.Sub, i.A, i.B, int(i.K)}
				if seen[key] > 0 {
					count++
				}
				seen[key]++
			}
		}
	}
	return count
}

// TestAgain: they are well formed, none is Stuck without slips, and much is reckoned again.
func TestAgain(t *testing.T) {
	again, once := 0, 0
	for seed := range int64(600) {
		slips := int(seed%2) * 40
		p := New(rand.New(rand.NewSource(seed)).Intn, slips).Again(2).Program()
		r, e := rtl.Run(p, make([]int64, len(p.Funcs[p.Main].Params)), []int64{1, 2, 3}, 10000)
		if !rtl.Good(p) || e != api.OK || slips == 0 && r.Kind != api.Halt {
			t.Fatalf("%s: %d, it ends with %d", rtl.Text(p), e, r.Kind)
		}
		again += reckonings(p)
		once += reckonings(made(seed, slips))
	}
	if again < 3*once || again < 3000 {
		t.Errorf("%d times something is reckoned again, %d times without asking for it", again, once)
	}
}

// TestReckoner: all are right, and of the same choices they are the same.
func TestReckoner(t *testing.T) {
	for seed := range int64(600) {
		nodes, regs := 1+int(seed%20), 1+int(seed%5)
		f, g := Reckoner(rand.New(rand.NewSource(seed)).Intn, nodes, regs), Reckoner(rand.New(rand.NewSource(seed)).Intn, nodes, regs)
		a, b := rtl.Text(rtl.Prog{Funcs: []rtl.Func{f}}), rtl.Text(rtl.Prog{Funcs: []rtl.Func{g}})
		if !rtl.Right(f) || len(f.Code) != nodes || f.Regs != regs || a != b {
			t.Fatalf("%s, and once more: %s", a, b)
		}
	}
}

// TestWild: all are well formed; of the same choices they are the same; more Nops come, if they are asked for; and any number may stand where nobody asks.
func TestWild(t *testing.T) {
	count := map[int]int{}
	for seed := range int64(600) {
		nops := int(seed%3) * 3
		p := Wild(rand.New(rand.NewSource(seed)).Intn, nops)
		if !rtl.Good(p) || rtl.Text(Wild(rand.New(rand.NewSource(seed)).Intn, nops)) != rtl.Text(p) {
			t.Fatalf("%s", rtl.Text(p))
		}
		any := Scrambled(rand.New(rand.NewSource(seed)).Intn, p)
		if !rtl.Good(any) || rtl.Text(any) == rtl.Text(p) {
			t.Fatalf("%sscrambled: %s", rtl.Text(p), rtl.Text(any))
		}
		for _, f := range p.Funcs {
			for _, i := range f.Code {
				if i.Op == rtl.Nop {
					count[nops]++
				}
			}
		}
	}
	if count[0] < 100 || count[3] < 2*count[0] || count[6] < 3*count[3]/2 {
		t.Errorf("Nops: %v", count)
	}
}

// TestLocated: they are well formed as chapter 16 says, and what they are made of stays; with what is moved, and all kept over calls, they do the same.
func TestLocated(t *testing.T) {
	slot := func(r int) int { return 16 + r }
	for seed := range int64(600) {
		pick := rand.New(rand.NewSource(seed)).Intn
		for _, p := range []rtl.Prog{made(seed, 40), Wild(pick, 2)} {
			before := rtl.Text(p)
			located, renamed := Located(p, slot), Renamed(p, slot)
			if !ltl.Good(located) || !ltl.Good(renamed) || rtl.Text(p) != before {
				t.Fatalf("%s\nof %s, it was %s", rtl.Text(located), rtl.Text(p), before)
			}
			args := make([]int64, len(p.Funcs[p.Main].Params))
			want, _ := rtl.Run(p, args, []int64{1, 2, 3}, 1000)
			got, _ := ltl.Run(located, args, []int64{1, 2, 3}, 20000)
			if want.Kind != api.Fuel && (!trace.Same(got, want) || !trace.Leaks(got, want)) {
				t.Fatalf("%s\nof %s: %.1000v, want %.1000v", rtl.Text(located), before, got, want)
			}
		}
	}
}

// TestRenamed has one written out: what chapter 12's table does not name stays.
func TestRenamed(t *testing.T) {
	at := func(r int) int { return []int{3, 0, 18}[r] }
	f := rtl.Func{Name: "f", Params: []int{2}, Regs: 3, Code: []rtl.Instr{
		{Op: rtl.Bin, Sub: api.Add, A: 0, B: none, D: 2, K: 7, S: 1}, {Op: rtl.Cond, Sub: api.Eq, A: 1, B: 2, D: 1, S: 2}, {Op: rtl.Call, A: 1, D: none, Args: []int{2}, S: 3}, {Op: rtl.Return, A: none}}}
	want := rtl.Func{Name: "f", Params: []int{7}, Regs: 19, Code: []rtl.Instr{
		{Op: rtl.Bin, Sub: api.Add, A: 3, B: none, D: 18, K: 7, S: 1}, {Op: rtl.Cond, Sub: api.Eq, A: 0, B: 18, D: 1, S: 2}, {Op: rtl.Call, A: 1, D: 0, Args: []int{7}, S: 3}, {Op: rtl.Return, A: 0}}}
	got := Renamed(rtl.Prog{Funcs: []rtl.Func{f}}, at)
	if text, all := rtl.Text(got), rtl.Text(rtl.Prog{Funcs: []rtl.Func{want}}); text != all {
		t.Errorf("%s, want %s", text, all)
	}
}

// TestCases: those that are right are so, the others not; all have their own names.
func TestCases(t *testing.T) {
	seen := map[string]int{}
	count := map[bool]int{}
	for _, c := range Cases() {
		if rtl.Right(c.Func) != c.IsRight {
			t.Errorf("%s: it is right: %t", c.Name, !c.IsRight)
		}
		seen[c.Name]++
		count[c.IsRight]++
		if seen[c.Name] > 1 {
			t.Errorf("%s: twice", c.Name)
		}
	}
	if count[true] < 80 || count[false] < 200 {
		t.Errorf("right, wrong: %v", count)
	}
}

// TestBroken: many are right, and many are not; of the same choices they are the same.
func TestBroken(t *testing.T) {
	count := map[bool]int{}
	for seed := range int64(1000) {
		f, g := Broken(rand.New(rand.NewSource(seed)).Intn), Broken(rand.New(rand.NewSource(seed)).Intn)
		if a, b := rtl.Text(rtl.Prog{Funcs: []rtl.Func{f}}), rtl.Text(rtl.Prog{Funcs: []rtl.Func{g}}); a != b {
			t.Fatalf("%s, and once more it is another: %s", a, b)
		}
		count[rtl.Right(f)]++
	}
	if count[true] < 200 || count[false] < 200 {
		t.Errorf("right, wrong: %v", count)
	}
}
