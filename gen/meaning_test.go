package gen_test

import (
	"math/rand"
	"slices"
	"testing"

	"plumbob/alloc"
	"plumbob/api"
	"plumbob/asm"
	"plumbob/check"
	"plumbob/clight"
	"plumbob/gen"
	"plumbob/graphs"
	"plumbob/ladder"
	"plumbob/mach"
	"plumbob/pair"
	"plumbob/rtl"
	"plumbob/sample"
	"plumbob/trace"
)

// long is how much fuel a run is given that may not end.
const long = 3000

// bench holds code with frames, and what it is as x86-64 code, against each other.
type bench struct {
	*testing.T
	framed *mach.Prog
	code   asm.Prog
	pair.Pair
}

// newBench has the code as it is emitted, or peeped besides.
func newBench(t *testing.T, p rtl.Prog, isPeeped bool) *bench {
	t.Helper()
	framed := stacked(t, p)
	made := emitted(t, framed)
	if isPeeped {
		for n, f := range made.Funcs {
			made.Funcs[n] = gen.Peep(f)
		}
	}
	upper := func(args, world []int64, fuel int) api.Run {
		r, e := framed.Run(args, world, fuel)
		if e != api.OK {
			t.Fatalf("P19.1: %s: %d", framed.Text(), e)
		}
		return r
	}
	lower := func(args, world []int64, fuel int) api.Run {
		r, e := asm.Run(made, args, world, fuel, all)
		if e != api.OK {
			t.Fatalf("P21.1: %s: %d", asm.Text(made), e)
		}
		return r
	}
	// Copies of a register to itself are steps with frames, and none in code.
	return &bench{T: t, framed: framed, code: made, Pair: pair.Pair{Upper: upper, Lower: lower, Times: 20, More: 100, Most: long, Leap: 10}}
}

// holds asks what is done, and that nothing leaks besides but where words are; it tells how the run with frames ends.
func (b *bench) holds(given pair.Given) int {
	b.Helper()
	kind, fault := b.Holds(given)
	if fault == "" && kind != api.Stuck {
		fault = b.leaksMore(given)
	}
	if fault != "" {
		b.Fatalf("P21.1: %v: %s%sit was %s", given, fault, asm.Text(b.code), b.framed.Text())
	}
	return kind
}

// leaksMore tells what leaks besides, if something does.
func (b *bench) leaksMore(given pair.Given) string {
	above, below := b.Upper(given.Args, given.World, b.Most), b.Lower(given.Args, given.World, 20*b.Most+100)
	upper, lower := own(b.framed, withoutSides(above.Leaks)), own(b.framed, withoutSides(atFrames(b.framed, below.Leaks)))
	if len(lower) < len(upper) || above.Kind == api.Halt && len(lower) > len(upper) || !slices.Equal(lower[:len(upper)], upper) {
		return "it leaks something else: " + told(below) + ", and with frames " + told(above)
	}
	return ""
}

// leakTheSame tells whether two runs with frames leak the same, and asks it of the code, also with too little stack.
func (b *bench) leakTheSame(one, two pair.Given) bool {
	b.Helper()
	isAsked, fault := b.LeakTheSame(one, two)
	if fault != "" {
		b.Fatalf("P21.1: %v, %v: %s%sit was %s", one, two, fault, asm.Text(b.code), b.framed.Text())
	}
	if !isAsked {
		return false
	}
	peak, _ := asm.Peak(b.code, one.Args, one.World, 20*b.Most)
	for limit := peak; limit >= 0; limit -= 1 + peak/5 {
		r, _ := asm.Run(b.code, one.Args, one.World, 20*b.Most, limit)
		s, _ := asm.Run(b.code, two.Args, two.World, 20*b.Most, limit)
		if !trace.Leaks(r, s) || r.Kind != s.Kind || r.Steps != s.Steps || (r.Kind == api.Overflow) != (limit < peak) {
			b.Fatalf("P21.1: with limit %d: %s, and %s of %s", limit, told(r), told(s), asm.Text(b.code))
		}
	}
	return true
}

// tally counts how runs end.
type tally struct {
	ends           map[int]int
	asked, unasked int
}

func newTally() *tally { return &tally{ends: map[int]int{}} }

// count asks all of a program, with two lists of args and worlds.
func (c *tally) count(b *bench, one, two pair.Given) {
	b.Helper()
	c.ends[b.holds(one)]++
	if b.leakTheSame(one, two) {
		c.asked++
	} else {
		c.unasked++
	}
}

func (c *tally) atLeast(t *testing.T, halt, fuel, stuck, asked, unasked int) {
	t.Helper()
	t.Logf("ends %v, leaks are asked of %d, not of %d", c.ends, c.asked, c.unasked)
	if c.ends[api.Halt] < halt || c.ends[api.Fuel] < fuel || c.ends[api.Stuck] < stuck || c.asked < asked || c.unasked < unasked {
		t.Errorf("P21.1: those made by chance end %v, leaks are asked of %d, not of %d", c.ends, c.asked, c.unasked)
	}
}

// given has args and a world by chance.
func given(r *rand.Rand, p rtl.Prog) pair.Given {
	return pair.Given{Args: somes(r, len(p.Funcs[p.Main].Params)), World: somes(r, 3)}
}

// TestGraphsByChance asks P21.1 of programs of graphs made by chance, over locations by chance, and over those that they are given.
func TestGraphsByChance(t *testing.T) {
	t.Parallel()
	c := newTally()
	for seed := range int64(500) {
		r := rand.New(rand.NewSource(seed))
		over := graphs.New(r.Intn, int(seed%3)*40).Program()
		p := graphs.Located(over, in(shuffled(r, nameable([]int{16, 24, 40}[r.Intn(3)]))))
		c.count(newBench(t, graphs.Scrambled(r.Intn, p), seed%4 == 0), given(r, p), given(r, p))
		if p, e := alloc.Allocate(over); e == api.OK {
			c.count(newBench(t, p, seed%4 == 1), given(r, p), given(r, p))
		}
	}
	c.atLeast(t, 500, 5, 150, 400, 250)
}

// TestWildByChance has graphs whose nodes go on anywhere, over few locations: much has no value in them.
func TestWildByChance(t *testing.T) {
	t.Parallel()
	c := newTally()
	for seed := range int64(3000) {
		r := rand.New(rand.NewSource(seed))
		wild, at := graphs.Wild(r.Intn, 0), in(shuffled(r, [][]int{{0, 7, 6}, {3, 7, 5}, {0, 3, 16}, {0, 7, 6, 3, 16, 12}}[r.Intn(4)]))
		p := graphs.Renamed(wild, at)
		if seed%2 == 0 {
			p = graphs.Located(wild, at)
		}
		b := newBench(t, p, seed%3 == 0)
		b.Most = 300
		c.count(b, given(r, p), given(r, p))
	}
	c.atLeast(t, 50, 600, 1500, 600, 1500)
}

// down makes a source a program over locations.
func down(t *testing.T, text string, isShort bool) (*check.Program, rtl.Prog) {
	t.Helper()
	source, p, e := ladder.Located(text, isShort)
	if e != api.OK {
		t.Fatalf("%.3000s: %d", text, e)
	}
	return source, p
}

// TestTales has every kind of statement and expression: what a source does its code does.
func TestTales(t *testing.T) {
	t.Parallel()
	c := newTally()
	for n, tale := range sample.Tales() {
		for _, isShort := range []bool{false, true} {
			source, p := down(t, tale.Text, isShort)
			b := newBench(t, p, n%2 == 0)
			c.ends[b.holds(pair.Given{Args: tale.Args, World: tale.World})]++
			told, _ := clight.Run(source, tale.Args, tale.World, 900)
			made := b.Lower(tale.Args, tale.World, 10000*900+100000)
			if told.Kind == api.Halt && !trace.Same(made, told) || told.Kind == api.Fuel && !trace.Prefix(told.Events, made.Events) {
				t.Errorf("P21.1: %s: %swhere the source says %s", tale.Text, trace.Text(made), trace.Text(told))
			}
		}
	}
	c.atLeast(t, 200, 2, 20, 0, 0)
}

// TestSecrets has sources whose secrets are in no leak.
func TestSecrets(t *testing.T) {
	t.Parallel()
	for n, text := range sample.Secrets() {
		_, p := down(t, text, true)
		b := newBench(t, p, n%2 == 0)
		for i, s := range edges {
			one := pair.Given{Args: []int64{4, s, edges[(i*7+3)%len(edges)]}, World: []int64{s, 2}}
			two := pair.Given{Args: []int64{4, edges[(i*5+1)%len(edges)], 9}, World: []int64{-s}}
			if !b.leakTheSame(one, two) {
				t.Errorf("P21.1: %s with %d does not leak the same", text, s)
			}
		}
	}
}

// TestShown has sources that leak what they are given: so does their code.
func TestShown(t *testing.T) {
	for _, text := range sample.Shown() {
		_, p := down(t, text, false)
		b := newBench(t, p, false)
		if above, below := b.leakTheSame(pair.Given{Args: []int64{0}}, pair.Given{Args: []int64{1}}), trace.Leaks(b.Lower([]int64{0}, nil, 20*long), b.Lower([]int64{1}, nil, 20*long)); above || below {
			t.Errorf("P21.1: %s leaks the same of 0 and 1: with frames %t, as code %t", text, above, below)
		}
	}
}

// TestSourcesByChance asks P21.1 of sources made by chance, each with two lists of args and worlds that are the same in what is public.
func TestSourcesByChance(t *testing.T) {
	t.Parallel()
	c := newTally()
	for seed := range int64(150) {
		r := rand.New(rand.NewSource(seed))
		_, p := down(t, sample.New(r.Intn, int(seed%3*60)).Program(), seed%2 == 0)
		one, two := pair.Given{Args: somes(r, 4), World: somes(r, 5)}, pair.Given{Args: somes(r, 4), World: somes(r, 5)}
		copy(two.Args, one.Args[:2])
		c.count(newBench(t, p, seed%4 < 2), one, two)
	}
	c.atLeast(t, 100, 2, 10, 100, 10)
}
