package rtl_test

import (
	"fmt"
	"math/rand"
	"slices"
	"testing"

	"plumbob/api"
	"plumbob/graphs"
	"plumbob/model"
	"plumbob/rtl"
	"plumbob/trace"
)

var edges = []int64{0, 1, 2, 3, 7, 8, 31, 32, 63, 64, 127, 128, 255, 256, 1<<31 - 1, 1 << 31, 1 << 32, 1 << 62, 1<<63 - 1, -1, -2, -7, -8, -128, -129, -1 << 31, -1 << 32, -1 << 63}

func somes(r *rand.Rand, count int) []int64 {
	l := []int64{}
	for range count {
		l = append(l, edges[r.Intn(len(edges))])
	}
	return l
}

// same asks that a run is as the model's.
func same(t *testing.T, p rtl.Prog, args, world []int64, fuel int) api.Run {
	t.Helper()
	r, e := rtl.Run(p, args, world, fuel)
	if want := model.Run(p, model.Keeping, args, world, fuel); e != api.OK || fmt.Sprint(r) != fmt.Sprint(want) {
		t.Errorf("P12.1: %s%v, %v with fuel %d: %.3000v (%d), want %.3000v", rtl.Text(p), args, world, fuel, r, e, want)
	}
	return r
}

// TestRunByChance holds programs made by chance against the model, at many fuels.
func TestRunByChance(t *testing.T) {
	ends := map[int]int{}
	for seed := range int64(3000) {
		r := rand.New(rand.NewSource(seed))
		p := graphs.New(r.Intn, []int{0, 10, 40}[seed%3]).Program()
		for range 3 {
			args, world := somes(r, len(p.Funcs[p.Main].Params)), somes(r, r.Intn(6))
			last := same(t, p, args, world, 3000)
			ends[last.Kind]++
			for range 5 {
				same(t, p, args, world, r.Intn(last.Steps+2))
			}
			any := graphs.Scrambled(r.Intn, p)
			if other, e := rtl.Run(any, args, world, 3000); e != api.OK || !trace.Same(other, last) || !trace.Leaks(other, last) || other.Steps != last.Steps {
				t.Errorf("P12.1: %swith any number where none is asked: %.3000v (%d), want %.3000v", rtl.Text(any), other, e, last)
			}
		}
	}
	t.Logf("ends %v", ends)
	if ends[api.Halt] < 4000 || ends[api.Stuck] < 1000 || ends[api.Fuel] < 50 {
		t.Errorf("P12.1: the programs made by chance end %v", ends)
	}
}

// TestWildByChance: graphs whose nodes go on anywhere, over few registers of any kind.
func TestWildByChance(t *testing.T) {
	ends, deep := map[int]int{}, 0
	for seed := range int64(20000) {
		r := rand.New(rand.NewSource(seed))
		p := graphs.Wild(r.Intn, 0)
		if !rtl.Good(p) {
			t.Fatalf("P12.1: Good of %s", rtl.Text(p))
		}
		last := same(t, p, somes(r, len(p.Funcs[p.Main].Params)), somes(r, 3), r.Intn(300))
		ends[last.Kind]++
		if last.Steps > 20 {
			deep++
		}
	}
	t.Logf("ends %v, %d of more than 20 steps", ends, deep)
	if ends[api.Halt] < 500 || ends[api.Stuck] < 5000 || ends[api.Fuel] < 500 || deep < 1000 {
		t.Errorf("P12.1: the wild programs end %v, %d with more than 20 steps", ends, deep)
	}
}

// roomy has lists with room behind them, and tells whether one of them, or what stands behind it, was changed.
func roomy(p rtl.Prog) (rtl.Prog, func() bool) {
	const mark = 424242
	var asks []func() bool
	of := func(l []int) []int {
		wide := append(slices.Clone(l), mark, mark)
		before := slices.Clone(wide)
		asks = append(asks, func() bool { return slices.Equal(wide, before) })
		return wide[:len(l)]
	}
	p.Globals = of(p.Globals)
	p.Funcs = append(slices.Clone(p.Funcs), rtl.Func{Name: "behind"})
	for n := range p.Funcs {
		f := &p.Funcs[n]
		f.Params = of(f.Params)
		f.Code = append(slices.Clone(f.Code), rtl.Instr{Op: mark})
		for at := range f.Code {
			f.Code[at].Args = of(f.Code[at].Args)
		}
		f.Code = f.Code[:len(f.Code)-1]
	}
	before := fmt.Sprint(p, p.Funcs[0].Code[:len(p.Funcs[0].Code)+1])
	asks = append(asks, func() bool { return fmt.Sprint(p, p.Funcs[0].Code[:len(p.Funcs[0].Code)+1]) == before })
	given := p
	given.Funcs = p.Funcs[:len(p.Funcs)-1]
	return given, func() bool { return !slices.ContainsFunc(asks, func(same func() bool) bool { return !same() }) }
}

// spoil writes over a list, and over what room there is behind it.
func spoil[E any](l []E) { clear(l[:cap(l)]) }

// TestNothingChanges: what is handed in stays as it was, and what is answered is new each time.
func TestNothingChanges(t *testing.T) {
	for seed := range int64(200) {
		r := rand.New(rand.NewSource(seed))
		p, same := roomy(graphs.New(r.Intn, 20).Program())
		args, world := somes(r, len(p.Funcs[p.Main].Params)), somes(r, 4)
		wide, far := append(slices.Clone(args), 7), append(slices.Clone(world), 7)
		first, e := rtl.Run(p, wide[:len(args)], far[:len(world)], 500)
		rtl.Good(p)
		rtl.Text(p)
		for _, f := range p.Funcs {
			for _, i := range f.Code {
				for range rtl.Uses(i) {
				}
				for range rtl.Succs(i) {
				}
			}
		}
		if e != api.OK || !same() || !slices.Equal(wide, append(args, 7)) || !slices.Equal(far, append(world, 7)) {
			t.Fatalf("R4: %swas changed (%d)", rtl.Text(p), e)
		}
		before := fmt.Sprint(first)
		second, _ := rtl.Run(p, args, world, 500)
		spoil(second.Leaks)
		spoil(second.Events)
		third, _ := rtl.Run(p, args, world, 500)
		if fmt.Sprint(first) != before || fmt.Sprint(third) != before {
			t.Errorf("R4: %sanswers memory that is not new", rtl.Text(p))
		}
	}
}
