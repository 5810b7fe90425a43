package alloc

import (
	"math/rand"
	"slices"
	"testing"

	"plumbob/api"
	"plumbob/graphs"
	"plumbob/rtl"
)

// validCase is a function, and givings of it.
type validCase struct {
	name        string
	f           rtl.Func
	right, fail [][]int
}

// asks asks whether givings are valid, and that nothing is changed.
func asks(t *testing.T, cases []validCase) {
	t.Helper()
	for _, c := range cases {
		for _, isRight := range []bool{true, false} {
			for _, giving := range map[bool][][]int{true: c.right, false: c.fail}[isRight] {
				before := dump(c.f) + dump(giving)
				if Valid(c.f, giving) != isRight || Valid(c.f, giving) != isRight {
					t.Errorf("P17.1: %s: Valid(%.500s, %v): %t", c.name, dump(c.f), giving, !isRight)
				}
				if dump(c.f)+dump(giving) != before {
					t.Errorf("R4: %s: Valid changes what it is given: %s, it was %s", c.name, dump(c.f)+dump(giving), before)
				}
			}
		}
	}
}

type givings = [][]int

// example is the chapter's.
func example() rtl.Func {
	return function(3, row(constant(0, 1), constant(1, 2), add(0, 1, 2), leave(2))...)
}

func TestValidExamples(t *testing.T) {
	asks(t, []validCase{
		{"the chapter's", example(), givings{{0, 1, 0}, {0, 1, 1}, {0, 1, 2}, {16, 17, 16}}, givings{{0, 0, 1}, {3, 3, 3}, {16, 16, 0}}},
		{"of other lengths", example(), nil, givings{nil, {}, {0}, {0, 1}, {0, 1, 0, 2}, {0, 1, 0, 0, 0}}},
		{"of no registers", function(0, leave(-1)), givings{nil, {}}, givings{{0}}},
	})
}

// TestValidLocations has each location that there is at an edge, of a register that is asked and of one that is not.
func TestValidLocations(t *testing.T) {
	f := function(2, row(constant(0, 1), leave(0))...)
	mayBe := slices.Concat(machines, []int{16, 17, 18, 19, 20, 31, 32, 99, 4999, 5000, 5014, 5015})
	mayNotBe := []int{4, 10, 11, -1, -2, -5, -16, 5016, 5017, 1 << 32, 1<<32 + 5, 1<<63 - 1, lowest, lowest + 5}
	for _, locations := range [][]int{mayBe, mayNotBe} {
		for _, loc := range locations {
			isRight := slices.Contains(mayBe, loc)
			for _, giving := range (givings{{loc, 0}, {0, loc}, {loc, loc}}) {
				if Valid(f, giving) != isRight {
					t.Errorf("P17.1: Valid of the giving %v: %t", giving, !isRight)
				}
			}
		}
	}
}

// TestValidWrites has what is written beside what is live.
func TestValidWrites(t *testing.T) {
	atS := function(3, to(3, constant(0, 1)), constant(1, 2), leave(1), leave(2))
	back := function(2, row(input(0), output(1), test(0, 0, 0), leave(-1))...)
	asks(t, []validCase{
		{"one that is live behind", function(2, row(input(0), input(1), output(0), leave(-1))...), givings{{0, 1}, {1, 0}, {16, 17}}, givings{{0, 0}, {17, 17}}},
		{"one that is live far behind", function(2, row(input(0), nothing(0), input(1), nothing(0), output(0), leave(-1))...), givings{{0, 1}}, givings{{0, 0}}},
		{"one that is read as it is written", function(2, row(input(0), un(0, 1), leave(1))...), givings{{0, 0}, {0, 1}}, nil},
		{"one that is written again", function(2, row(input(0), un(0, 1), input(0), add(0, 1, 1), leave(1))...), givings{{0, 1}}, givings{{0, 0}}},
		{"one that is written ahead of its reader", function(2, row(input(0), output(0), input(1), input(0), add(0, 1, 1), leave(1))...), givings{{0, 1}}, givings{{0, 0}}},
		{"one that is written behind", function(2, row(input(0), output(0), input(1), output(1), input(0), leave(0))...), givings{{0, 0}, {0, 1}}, nil},
		{"one that is live at S", atS, givings{{0, 1, 2}, {1, 1, 2}, {0, 2, 2}}, givings{{2, 1, 2}}},
		{"what nobody asks", function(2, row(input(0), input(1), leave(0))...), givings{{0, 1}}, givings{{0, 0}}},
		{"what nobody asks, beside nothing", function(2, row(input(0), input(1), leave(-1))...), givings{{0, 0}, {0, 1}}, nil},
		{"in a loop", back, givings{{0, 1}}, givings{{0, 0}}},
		{"one that is live where a branch goes on first", function(3, row(input(0), input(1), test(0, 0, 4), leave(1), leave(-1))...), givings{{0, 1, 0}}, givings{{0, 0, 1}}},
		{"one that is live where a branch goes on else", function(3, row(input(0), input(1), test(0, 0, 4), leave(-1), leave(0))...), givings{{0, 1, 0}}, givings{{0, 0, 1}}},
		{"of a branch, which writes nothing", function(3, row(rtl.Instr{Op: rtl.Cond, Sub: api.Eq, A: 0, B: -1, D: 2, T: 1}, leave(2))...), givings{{0, 1, 2}}, givings{{0, 1, 0}}},
		{"of nodes that can't be reached", function(2, leave(-1), to(2, input(0)), to(3, input(1)), to(4, add(0, 1, 0)), to(0, call(-1, 0))), givings{{0, 0}, {5, 5}, {5015, 5015}}, nil},
		{"of nodes that known branches go past", function(3, row(constant(0, 1), test(0, 1, 3), leave(0), input(1), input(2), add(1, 2, 1), leave(1))...), givings{{0, 0, 1}}, givings{{0, 1, 1}}},
		{"with another entry", entered(function(2, leave(0), to(2, input(0)), to(0, input(1))), 1), givings{{0, 1}}, givings{{0, 0}}},
		{"with an entry behind", entered(function(2, to(1, input(0)), to(2, input(1)), leave(0)), 2), givings{{0, 0}, {0, 1}}, nil},
	})
}

// TestValidEachWriter has each Op with a D that is no location of its own: it must not write where one stands that is live behind.
func TestValidEachWriter(t *testing.T) {
	for op := rtl.Nop; op <= rtl.Out; op++ {
		i := rtl.Instr{Op: op, A: 2, B: 2, D: 1, Sub: map[int]int{rtl.Un: api.Neg, rtl.Bin: api.Add, rtl.Load: 8, rtl.Store: 8, rtl.Cond: api.Eq}[op], S: 3, T: 3}
		f := function(3, to(1, input(0)), to(2, frame(2)), i, to(4, output(0)), leave(-1))
		isAlone := op == rtl.Nop || op == rtl.Store || op == rtl.Cond || op == rtl.Out || op == rtl.Return
		if Valid(f, []int{3, 3, 5}) != isAlone || !Valid(f, []int{3, 0, 5}) || !Valid(f, []int{16, 0, 17}) {
			t.Errorf("P17.1: Valid with Op %d", op)
		}
	}
}

func TestValidCopies(t *testing.T) {
	asks(t, []validCase{
		{"a copy of one that is live", function(2, row(input(0), copied(0, 1), add(0, 1, 0), leave(0))...), givings{{0, 0}, {0, 1}}, nil},
		{"a copy beside a third one", function(3, row(input(2), input(0), copied(0, 1), add(0, 1, 0), add(0, 2, 0), leave(0))...), givings{{0, 0, 1}, {0, 1, 2}}, givings{{0, 1, 1}, {1, 0, 1}, {0, 0, 0}}},
		{"a copy, and then another value", function(2, row(input(0), copied(0, 1), input(1), add(0, 1, 0), leave(0))...), givings{{0, 1}}, givings{{0, 0}}},
		{"a copy, and then what it was of", function(2, row(input(0), copied(0, 1), input(0), add(0, 1, 0), leave(0))...), givings{{0, 1}}, givings{{0, 0}}},
		{"a copy of itself", function(2, row(input(0), input(1), copied(0, 0), add(0, 1, 0), leave(0))...), givings{{0, 1}}, givings{{0, 0}}},
		{"a copy of itself beside another", function(2, row(input(1), copied(0, 0), add(0, 1, 0), leave(0))...), givings{{0, 1}}, givings{{0, 0}}},
		{"a copy of one that is live no more", function(2, row(input(0), copied(0, 1), leave(1))...), givings{{0, 0}, {0, 1}}, nil},
		{"what is no copy", function(2, row(input(0), fixed(api.Add, 0, 0, 1), add(0, 1, 0), leave(0))...), givings{{0, 1}}, givings{{0, 0}}},
		{"the other one's copy", function(2, row(input(0), copied(0, 1), output(1), copied(1, 0), add(0, 1, 0), leave(0))...), givings{{0, 0}, {0, 1}}, nil},
		{"a copy's A that the table does not name", function(2, row(input(1), rtl.Instr{Op: rtl.In, A: 1, D: 0}, add(0, 1, 0), leave(0))...), givings{{0, 1}}, givings{{0, 0}}},
	})
}

func TestValidCalls(t *testing.T) {
	var lost, kept givings
	for _, loc := range append(slices.Clone(machines), 16, 17, 5015) {
		if isKeeping(loc) {
			kept = append(kept, []int{loc, loc})
		} else {
			lost = append(lost, []int{loc, loc})
		}
	}
	over := function(2, row(input(0), call(-1), leave(0))...)
	ahead := function(2, row(input(0), call(-1, 0), leave(-1))...)
	own := function(2, row(input(0), call(0, 0), leave(0))...)
	argument := function(2, row(input(0), call(1, 0), add(0, 1, 0), leave(0))...)
	asks(t, []validCase{
		{"one that is live behind a call", over, kept, lost},
		{"one that is live ahead of it alone", ahead, append(kept, lost...), nil},
		{"the call's own D", own, append(kept, lost...), nil},
		{"one that is an argument, too", argument, givings{{3, 0}, {16, 16 + 1}, {15, 7}}, givings{{0, 3}, {7, 3}, {3, 3}, {16, 16}}},
		{"D, of which nobody asks", function(2, row(input(0), call(1), leave(0))...), givings{{3, 0}, {3, 5}, {16, 2}}, givings{{3, 3}, {0, 3}}},
		{"a parameter", with(over, 0), kept, lost},
		{"far behind", function(2, row(input(0), nothing(0), call(-1), nothing(0), output(0), leave(-1))...), kept, lost},
		{"on one way", function(2, row(input(0), test(0, 1, 4), call(-1), leave(-1), leave(0))...), append(kept, lost...), nil},
		{"in a loop", function(2, row(input(0), call(1), test(0, 1, 1), leave(-1))...), givings{{3, 0}, {16, 3}}, givings{{0, 1}, {3, 3}}},
		{"that can't be reached", function(2, to(2, input(0)), to(2, call(-1)), leave(0)), append(kept, lost...), nil},
	})
}

func TestValidEntry(t *testing.T) {
	both := function(3, row(add(0, 1, 2), leave(2))...)
	asks(t, []validCase{
		{"two that are live at the entry", both, givings{{0, 1, 0}, {0, 1, 1}, {16, 17, 16}}, givings{{0, 0, 1}, {16, 16, 1}}},
		{"two that are live behind, on unlike ways", function(2, row(test(0, 0, 2), leave(0), leave(1))...), givings{{0, 1}}, givings{{0, 0}}},
		{"one that is live, one that is not", function(2, row(input(1), leave(1))...), givings{{0, 0}}, nil},
		{"two parameters that are read", with(both, 0, 1), givings{{0, 1, 0}}, givings{{0, 0, 1}}},
		{"two of which one is read", with(function(2, leave(0)), 0, 1), givings{{0, 1}}, givings{{0, 0}}},
		{"two that nobody reads", with(function(2, leave(-1)), 0, 1), givings{{0, 1}}, givings{{0, 0}}},
		{"the first and the last of many", with(function(4, leave(-1)), 3, 0, 2), givings{{0, 1, 2, 3}, {0, 0, 2, 3}, {0, 3, 2, 3}}, givings{{0, 1, 2, 0}, {0, 1, 2, 2}, {2, 1, 2, 0}}},
		{"a parameter that nobody reads beside one that is live", with(function(2, leave(0)), 1), givings{{0, 1}, {0, 0}}, nil},
		{"more than six", with(function(7, leave(-1)), numbers(7)...), givings{{0, 1, 2, 3, 5, 6, 7}}, givings{{0, 1, 2, 3, 5, 6, 0}}},
	})
}

// TestValidOfWrongFunctions has functions at the edges of what is right.
func TestValidOfWrongFunctions(t *testing.T) {
	for _, c := range graphs.Cases() {
		mayBe := c.IsRight
		giving := numbers(min(max(c.Func.Regs, 0), 5001))
		for n := range giving {
			giving[n] += 16
		}
		if c.Func.Regs > 5000 { // there is no location for it
			mayBe = false
		}
		if Valid(c.Func, giving) != mayBe {
			t.Errorf("P17.1: Valid of a function with %s: %t", c.Name, !mayBe)
		}
	}
}

// TestValidByChance holds Valid against the second reading.
func TestValidByChance(t *testing.T) {
	t.Parallel()
	count := map[bool]int{}
	for seed := range int64(6000) {
		r := rand.New(rand.NewSource(seed))
		for _, f := range byChance(r) {
			k := rulesOf(f)
			giving := anyGiving(r, f)
			for n := range 6 {
				if n > 0 && f.Regs > 0 {
					giving[r.Intn(f.Regs)] = append(slices.Clone(machines), 4, 16, 17, -1)[r.Intn(17)]
				}
				isRight := k.allow(giving)
				if n == 0 && !isRight || Valid(f, giving) != isRight {
					t.Errorf("P17.1: Valid(%s, %v): %t", dump(f), giving, !isRight)
				}
				count[isRight]++
			}
		}
	}
	t.Logf("valid or not: %v", count)
	if count[true] < 10000 || count[false] < 10000 {
		t.Errorf("P17.1: valid or not: %v", count)
	}
}

// byChance are functions of each kind.
func byChance(r *rand.Rand) []rtl.Func {
	l := graphs.Wild(r.Intn, r.Intn(3)).Funcs
	l = append(l, graphs.New(r.Intn, r.Intn(2)*20).Again(r.Intn(5)).Program().Funcs...)
	return append(l, graphs.Reckoner(r.Intn, 1+r.Intn(12), 1+r.Intn(5)))
}

func TestSpills(t *testing.T) {
	for _, c := range []struct {
		giving []int
		want   int
	}{
		{nil, 0}, {[]int{}, 0}, {[]int{0}, 0}, {[]int{15, 3, 3, 0, 14}, 0}, {[]int{16}, 1}, {[]int{16, 16}, 1}, {[]int{16, 17}, 2}, {[]int{17, 16, 17, 16}, 2},
		{[]int{0, 16, 20, 16, 3, 99}, 3}, {[]int{99, 0, 5015, 99, 16, 5015}, 3}, {[]int{5015, 15, 16, 15}, 2}, {[]int{-1, -16, lowest, 4, 10}, 0},
		{append(numbers(5016), numbers(5016)...), 5000},
	} {
		room := append(slices.Clone(c.giving), 77, 88)
		if n := Spills(room[:len(c.giving)]); n != c.want || !slices.Equal(room, append(slices.Clone(c.giving), 77, 88)) {
			t.Errorf("P17.1: Spills(%.300v): %d, want %d; it is %.300v", c.giving, n, c.want, room)
		}
	}
}
