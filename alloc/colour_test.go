package alloc

import (
	"math/rand"
	"slices"
	"testing"

	"plumbob/api"
	"plumbob/graphs"
	"plumbob/rtl"
)

// refusal asks that Colour refuses a function, or takes it.
func refusal(t *testing.T, what string, f rtl.Func, isRight bool) {
	t.Helper()
	if isRight {
		coloured(t, f)
		return
	}
	before := dump(f)
	if giving, e := Colour(f); e != api.EARG || len(giving) != 0 || dump(f) != before {
		t.Errorf("P17.1: Colour of a function with %s, %.500s: %v (%d)", what, before, giving, e)
	}
	if Valid(f, nil) || Valid(f, []int{16, 17, 18}) {
		t.Errorf("P17.1: Valid of a function with %s, %.500s", what, before)
	}
}

func TestRefusals(t *testing.T) {
	for _, c := range graphs.Cases() {
		refusal(t, c.Name, c.Func, c.IsRight)
	}
}

// TestRefusalsByChance has functions with some fields of any kind.
func TestRefusalsByChance(t *testing.T) {
	count := map[bool]int{}
	for seed := range int64(4000) {
		f := graphs.Broken(rand.New(rand.NewSource(seed)).Intn)
		refusal(t, "any number", f, rtl.Right(f))
		count[rtl.Right(f)]++
	}
	if count[true] < 800 || count[false] < 800 {
		t.Errorf("P17.1: right, wrong: %v", count)
	}
}

// TestColourByChance holds what Colour gives against the second reading.
func TestColourByChance(t *testing.T) {
	t.Parallel()
	slots := 0
	for seed := range int64(1500) {
		r := rand.New(rand.NewSource(seed))
		for _, f := range append(byChance(r), graphs.Reckoner(r.Intn, 1+r.Intn(100), 10+r.Intn(30))) {
			giving := coloured(t, f)
			if !rulesOf(f).allow(giving) {
				t.Errorf("P17.1: Colour(%s): %v", dump(f), giving)
			}
			slots += min(1, Spills(giving))
			any := graphs.Scrambled(r.Intn, rtl.Prog{Funcs: []rtl.Func{f}}).Funcs[0]
			if got := coloured(t, any); !slices.Equal(got, giving) {
				t.Errorf("P17.1: Colour(%s): %v, but with numbers where nobody asks %v", dump(f), giving, got)
			}
		}
	}
	t.Logf("%d need slots", slots)
	if slots < 300 {
		t.Errorf("P17.1: Colour: %d of those made by chance need slots", slots)
	}
}

// crowd is a function with so many registers that are live at once, over some calls, each read behind them.
func crowd(count, calls int) rtl.Func {
	var code []rtl.Instr
	for r := range count {
		code = append(code, input(r))
	}
	for range calls {
		code = append(code, callOf(0, -1))
	}
	for r := range count {
		code = append(code, output(r))
	}
	return function(count, row(append(code, leave(-1))...)...)
}

// TestCrowds: slots are given where the machine's registers are used up, and no sooner.
func TestCrowds(t *testing.T) {
	for count := range 60 {
		for calls := range 3 {
			free := 13
			if calls > 0 {
				free = 6
			}
			giving := coloured(t, crowd(count, calls))
			if n := Spills(giving); n != max(0, count-free) || n > 0 && slices.Max(giving) != 15+n {
				t.Errorf("P17.1: Colour of %d registers over %d calls: %v", count, calls, giving)
			}
		}
	}
}

// TestGreatCrowd has as many nodes as there may be.
func TestGreatCrowd(t *testing.T) {
	f := crowd(2499, 1)
	if giving := coloured(t, f); len(f.Code) != 5000 || Spills(giving) != 2493 {
		t.Errorf("P17.1: Colour of %d nodes: %d slots", len(f.Code), Spills(giving))
	}
}

// ways is a function with many ways through it, on each of which so many registers are live over calls, and others behind.
func ways(count, each int) rtl.Func {
	code := []rtl.Instr{input(0)}
	for way := range count {
		branch := len(code)
		code = append(code, test(0, int64(way), 0))
		for n := range each {
			code = append(code, callOf(0, 1+way*each+n))
		}
		for n := range each {
			code = append(code, output(1+way*each+n))
		}
		code = append(code, leave(1+way*each))
		code[branch].T = len(code)
	}
	return function(1+count*each, row(append(code, leave(0))...)...)
}

func TestWays(t *testing.T) {
	for count := 1; count < 40; count += 3 {
		for each := 1; each < 14; each++ {
			giving := coloured(t, ways(count, each))
			if n := Spills(giving); n > each {
				t.Errorf("P17.1: Colour of %d ways with %d registers each: %d slots, %v", count, each, n, giving)
			}
		}
	}
}

// TestColourSavesMoves: what must stand somewhere is given that place, if it can be.
func TestColourSavesMoves(t *testing.T) {
	for _, c := range []struct {
		name string
		f    rtl.Func
		want []int
	}{
		{"what is answered", function(1, row(input(0), leave(0))...), []int{0}},
		{"what a call answers", function(2, row(callOf(0, 1), output(1), callOf(0, -1), leave(-1))...), []int{0, 0}},
		{"arguments", function(6, row(input(0), input(1), input(2), input(3), input(4), input(5), call(-1, 5, 4, 3, 2, 1, 0), leave(-1))...), []int{9, 8, 1, 2, 6, 7}},
		{"parameters", with(function(6, row(output(0), output(1), output(2), output(3), output(4), output(5), leave(-1))...), 0, 1, 2, 3, 4, 5), order},
		{"parameters that nobody reads", with(function(6, leave(-1)), 5, 4, 3, 2, 1, 0), []int{9, 8, 1, 2, 6, 7}},
		{"a parameter handed on", with(function(3, row(call(1, 0), leave(1))...), 0, 2), []int{7, 0, 6}},
		{"copies", function(4, row(input(3), copied(3, 2), copied(2, 1), copied(1, 0), leave(0))...), []int{0, 0, 0, 0}},
		{"what is answered, beside another", function(2, row(input(0), input(1), output(1), leave(0))...), []int{0, 1}},
		{"what a call answers, beside another", function(2, row(callOf(0, 0), input(1), output(1), output(0), leave(-1))...), []int{0, 1}},
		{"a copy of one that a call keeps", function(2, row(input(1), callOf(0, -1), copied(1, 0), output(0), leave(-1))...), []int{3, 3}},
		{"a copy over a call", function(2, row(input(0), copied(0, 1), callOf(0, -1), add(0, 1, 0), output(0), leave(-1))...), []int{3, 3}},
	} {
		if giving := coloured(t, c.f); !slices.Equal(giving, c.want) {
			t.Errorf("P17.1: Colour of %s: %v, want %v", c.name, giving, c.want)
		}
	}
}

// TestWhoGetsSlots: where there is one register too many, the one that is touched the least has a slot, wherever it stands among them.
func TestWhoGetsSlots(t *testing.T) {
	for calls, count := range []int{14, 7} {
		for least := range count {
			var code []rtl.Instr
			for r := range count {
				code = append(code, input(r))
			}
			code = append(code, slices.Repeat([]rtl.Instr{callOf(0, -1)}, calls)...)
			for r := range count {
				code = append(code, output(r))
				if r != least {
					code = append(code, output(r))
				}
			}
			f := function(count, row(append(code, leave(-1))...)...)
			if giving := coloured(t, f); Spills(giving) != 1 || giving[least] != 16 {
				t.Errorf("P17.1: Colour of %d registers, of which %d is touched the least: %v", count, least, giving)
			}
		}
	}
}

// TestNoSlotsInARow: in code without branches, each of whose registers is written once, none is given a slot, if there are never more live at once than the machine has.
func TestNoSlotsInARow(t *testing.T) {
	full := 0
	for seed := range int64(300) {
		r := rand.New(rand.NewSource(seed))
		var code []rtl.Instr
		var open []int
		count := 0
		for range 20 + r.Intn(200) {
			switch {
			case len(open) < 13 && r.Intn(5) > 1:
				code = append(code, input(count))
				open = append(open, count)
				count++
			case len(open) > 0:
				at := r.Intn(len(open))
				code = append(code, output(open[at]))
				if r.Intn(2) == 0 {
					open = slices.Delete(open, at, at+1)
				}
			}
			if len(open) == 13 {
				full++
			}
		}
		// Their numbers tell nothing of when they are written.
		names := shuffled(r, numbers(count))
		for n, i := range code {
			code[n] = rtl.Renamed(i, func(r int) int { return names[r] })
		}
		f := function(count, row(append(code, leave(-1))...)...)
		if giving := coloured(t, f); Spills(giving) != 0 {
			t.Errorf("P17.1: Colour of %s: %v", dump(f), giving)
		}
	}
	if full < 1000 {
		t.Errorf("P17.1: %d times all are live", full)
	}
}
