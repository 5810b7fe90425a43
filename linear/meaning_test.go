package linear_test

import (
	"math/rand"
	"testing"

	"plumbob/alloc"
	"plumbob/api"
	"plumbob/check"
	"plumbob/clight"
	"plumbob/graphs"
	"plumbob/ladder"
	"plumbob/linear"
	"plumbob/ltl"
	"plumbob/pair"
	"plumbob/rtl"
	"plumbob/sample"
	"plumbob/trace"
)

const (
	most = 3000 // how much fuel a run is given that may not end
	leap = 15   // of what is made by chance, at most so many Nops follow one another
)

// bench holds a program and its rows against each other.
type bench struct {
	*testing.T
	graphs rtl.Prog
	rows   *linear.Prog
	pair.Pair
}

func newBench(t *testing.T, p rtl.Prog) *bench {
	t.Helper()
	rows := flat(t, p)
	upper := func(args, world []int64, fuel int) api.Run {
		r, e := ltl.Run(p, args, world, fuel)
		if e != api.OK {
			t.Fatalf("P16.1: %s: %d", rtl.Text(p), e)
		}
		return r
	}
	lower := func(args, world []int64, fuel int) api.Run {
		r, e := rows.Run(args, world, fuel)
		if e != api.OK {
			t.Fatalf("P18.1: %s: %d", rows.Text(), e)
		}
		return r
	}
	return &bench{T: t, graphs: p, rows: rows, Pair: pair.Pair{Upper: upper, Lower: lower, Times: 3, More: 100, Most: most, Leap: leap}}
}

// holds asks what is done, and that the very same leaks, also if it is Stuck; it tells how the graphs' run ends.
func (b *bench) holds(args, world []int64) int {
	b.Helper()
	kind, fault := b.Holds(pair.Given{Args: args, World: world})
	above, below := b.Upper(args, world, b.Most), b.Lower(args, world, 3*b.Most+100)
	if fault == "" && above.Kind != api.Fuel && (!trace.Same(above, below) || !trace.Leaks(above, below)) {
		fault = "it does or leaks something else"
	}
	if fault != "" {
		b.Fatalf("P18.1: %v, %v: %s%sit was %s", args, world, fault, b.rows.Text(), rtl.Text(b.graphs))
	}
	return kind
}

// leakTheSame tells whether two runs of the graphs leak the same, and asks it of the rows.
func (b *bench) leakTheSame(one, two pair.Given) bool {
	b.Helper()
	isAsked, fault := b.LeakTheSame(one, two)
	if fault != "" {
		b.Fatalf("P18.1: %v, %v: %s%sit was %s", one, two, fault, b.rows.Text(), rtl.Text(b.graphs))
	}
	return isAsked
}

// tally counts how runs end.
type tally struct {
	ends           map[int]int
	asked, unasked int
}

func newTally() *tally { return &tally{ends: map[int]int{}} }

// count asks all of a program, with two lists of args and worlds.
func (c *tally) count(b *bench, one, two pair.Given) {
	b.Helper()
	c.ends[b.holds(one.Args, one.World)]++
	if b.leakTheSame(one, two) {
		c.asked++
	} else {
		c.unasked++
	}
}

func (c *tally) atLeast(t *testing.T, halt, fuel, stuck, asked, unasked int) {
	t.Helper()
	t.Logf("ends %v, leaks are asked of %d, not of %d", c.ends, c.asked, c.unasked)
	if c.ends[api.Halt] < halt || c.ends[api.Fuel] < fuel || c.ends[api.Stuck] < stuck || c.asked < asked || c.unasked < unasked {
		t.Errorf("P18.1: those made by chance end %v, leaks are asked of %d, not of %d", c.ends, c.asked, c.unasked)
	}
}

// given has args and a world by chance.
func given(r *rand.Rand, p rtl.Prog) pair.Given {
	return pair.Given{Args: somes(r, len(p.Funcs[p.Main].Params)), World: somes(r, 3)}
}

// TestGraphsByChance asks P18.1 of programs of graphs made by chance, over locations by chance, and over those that they are given.
func TestGraphsByChance(t *testing.T) {
	t.Parallel()
	c := newTally()
	for seed := range int64(600) {
		r := rand.New(rand.NewSource(seed))
		over := graphs.New(r.Intn, int(seed%3)*40).Program()
		p := graphs.Located(over, in(shuffled(r, nameable([]int{16, 24, 40}[r.Intn(3)]))))
		c.count(newBench(t, graphs.Scrambled(r.Intn, p)), given(r, p), given(r, p))
		if p, e := alloc.Allocate(over); e == api.OK {
			c.count(newBench(t, p), given(r, p), given(r, p))
		}
	}
	c.atLeast(t, 600, 6, 200, 500, 300)
}

// TestWildByChance has graphs whose nodes go on anywhere, over few locations, with many Nops.
func TestWildByChance(t *testing.T) {
	t.Parallel()
	c := newTally()
	for seed := range int64(2400) {
		r := rand.New(rand.NewSource(seed))
		wild, at := graphs.Wild(r.Intn, int(seed%3)*3), in(shuffled(r, [][]int{{0, 7, 6}, {0, 7, 3}, {0, 7, 6, 3, 16}}[r.Intn(3)]))
		p := graphs.Renamed(wild, at)
		if seed%2 == 0 {
			p = graphs.Located(wild, at)
		}
		b := newBench(t, p)
		b.Most = 300
		c.count(b, given(r, p), given(r, p))
	}
	c.atLeast(t, 30, 800, 1000, 800, 1000)
}

// down makes a source a program over locations.
func down(t *testing.T, text string, isShort bool) (*check.Program, rtl.Prog) {
	t.Helper()
	source, p, e := ladder.Located(text, isShort)
	if e != api.OK {
		t.Fatalf("%.3000s: %d", text, e)
	}
	return source, p
}

// TestTales has every kind of statement and expression: what a source does is done in rows.
func TestTales(t *testing.T) {
	t.Parallel()
	c := newTally()
	for _, tale := range sample.Tales() {
		for _, isShort := range []bool{false, true} {
			source, p := down(t, tale.Text, isShort)
			b := newBench(t, p)
			c.ends[b.holds(tale.Args, tale.World)]++
			told, _ := clight.Run(source, tale.Args, tale.World, 900)
			made := b.Lower(tale.Args, tale.World, 10000*900+100000)
			if told.Kind == api.Halt && !trace.Same(made, told) || told.Kind == api.Fuel && !trace.Prefix(told.Events, made.Events) {
				t.Errorf("P18.1: %s: %swhere the source says %s", tale.Text, trace.Text(made), trace.Text(told))
			}
		}
	}
	c.atLeast(t, 200, 2, 20, 0, 0)
}

// TestSecrets has sources whose secrets are in no leak.
func TestSecrets(t *testing.T) {
	t.Parallel()
	for _, text := range sample.Secrets() {
		_, p := down(t, text, true)
		b := newBench(t, p)
		for i, s := range edges {
			one := pair.Given{Args: []int64{4, s, edges[(i*7+3)%len(edges)]}, World: []int64{s, 2}}
			two := pair.Given{Args: []int64{4, edges[(i*5+1)%len(edges)], 9}, World: []int64{-s}}
			if !b.leakTheSame(one, two) {
				t.Errorf("P18.1: %s with %d does not leak the same", text, s)
			}
		}
	}
}

// TestShown has sources that leak what they are given: so do rows.
func TestShown(t *testing.T) {
	for _, text := range sample.Shown() {
		_, p := down(t, text, false)
		b := newBench(t, p)
		if above, below := b.leakTheSame(pair.Given{Args: []int64{0}}, pair.Given{Args: []int64{1}}), trace.Leaks(b.Lower([]int64{0}, nil, most), b.Lower([]int64{1}, nil, most)); above || below {
			t.Errorf("P18.1: %s leaks the same of 0 and 1: as graphs %t, in rows %t", text, above, below)
		}
	}
}

// TestSourcesByChance asks P18.1 of sources made by chance, each with two lists of args and worlds that are the same in what is public.
func TestSourcesByChance(t *testing.T) {
	t.Parallel()
	c := newTally()
	for seed := range int64(150) {
		r := rand.New(rand.NewSource(seed))
		_, p := down(t, sample.New(r.Intn, int(seed%3*60)).Program(), seed%2 == 0)
		one, two := pair.Given{Args: somes(r, 4), World: somes(r, 5)}, pair.Given{Args: somes(r, 4), World: somes(r, 5)}
		copy(two.Args, one.Args[:2])
		c.count(newBench(t, p), one, two)
	}
	c.atLeast(t, 100, 2, 10, 100, 10)
}
