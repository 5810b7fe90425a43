package cmin

import (
	"math/rand"
	"testing"

	"plumbob/api"
	"plumbob/sample"
)

// somes are numbers by chance.
func somes(r *rand.Rand, count int) []int64 {
	list := []int64{}
	for range count {
		list = append(list, edges[r.Intn(len(edges))])
	}
	return list
}

// TestMeaningByChance asks P10.2 of programs made by chance, at many args, worlds and fuels.
func TestMeaningByChance(t *testing.T) {
	ends := map[int]int{}
	events, leaks := 0, 0
	for seed := range int64(900) {
		r := rand.New(rand.NewSource(seed))
		m := sample.New(r.Intn, int(seed%3*60))
		c := pairOf(t, m.Program())
		for range 3 {
			args, world := somes(r, 4), somes(r, r.Intn(6))
			last := c.holds(args, world, 3000)
			ends[last.Kind]++
			events += len(last.Events)
			leaks += len(last.Leaks)
			for range 6 {
				c.holds(args, world, r.Intn(last.Steps+2))
			}
		}
	}
	t.Logf("ends %v, %d events, %d leaks", ends, events, leaks)
	if ends[api.Halt] < 1000 || ends[api.Stuck] < 50 || ends[api.Fuel] < 50 {
		t.Errorf("P10.2: the programs made by chance end %v", ends)
	}
}

// TestLeaksByChance asks P10.3 of programs made by chance, each with two lists of args and worlds that are the same in what is public.
func TestLeaksByChance(t *testing.T) {
	asked, unlike := 0, 0
	for seed := range int64(300) {
		r := rand.New(rand.NewSource(seed))
		m := sample.New(r.Intn, int(seed%2*200))
		c := pairOf(t, m.Program())
		first, second := somes(r, 4), somes(r, 4)
		copy(second, first[:2])
		if c.leakTheSame(first, somes(r, 5), second, somes(r, 5)) {
			asked++
		} else {
			unlike++
		}
	}
	t.Logf("asked of %d, not of %d", asked, unlike)
	if asked < 200 || unlike < 5 {
		t.Errorf("P10.3: it is asked of %d programs made by chance, and not of %d", asked, unlike)
	}
}
