package alloc

import (
	"math/rand"
	"slices"
	"testing"

	"plumbob/api"
	"plumbob/ast"
	"plumbob/check"
	"plumbob/clight"
	"plumbob/cmin"
	"plumbob/graphs"
	"plumbob/ltl"
	"plumbob/opt"
	"plumbob/pair"
	"plumbob/rtl"
	"plumbob/rtlgen"
	"plumbob/sample"
	"plumbob/sel"
	"plumbob/trace"
)

// most is how much fuel a run is given that may not end.
const most = 3000

// bench holds a program and what it is made against each other.
type bench struct {
	*testing.T
	before, after rtl.Prog
	pair.Pair
}

func newBench(t *testing.T, p, q rtl.Prog) *bench {
	t.Helper()
	upper := func(args, world []int64, fuel int) api.Run {
		r, e := rtl.Run(p, args, world, fuel)
		if e != api.OK {
			t.Fatalf("P12.1: %s: %d", rtl.Text(p), e)
		}
		return r
	}
	lower := func(args, world []int64, fuel int) api.Run {
		r, e := ltl.Run(q, args, world, fuel)
		if e != api.OK {
			t.Fatalf("P17.2: %s: %d", rtl.Text(q), e)
		}
		return r
	}
	return &bench{T: t, before: p, after: q, Pair: pair.Pair{Upper: upper, Lower: lower, Times: 20, More: 100, Most: most}}
}

// holds asks what is done, and that the very same leaks; it tells how the program's run ends.
func (b *bench) holds(args, world []int64) int {
	b.Helper()
	kind, fault := b.Holds(pair.Given{Args: args, World: world})
	if fault == "" && kind == api.Halt && !trace.Leaks(b.Upper(args, world, most), b.Lower(args, world, 20*most+100)) {
		fault = "it leaks something else"
	}
	if fault != "" {
		b.Fatalf("P17.2: %v, %v: %s%sit was %s", args, world, fault, rtl.Text(b.after), rtl.Text(b.before))
	}
	return kind
}

// leakTheSame tells whether two runs of the program leak the same, and asks it of what it is made.
func (b *bench) leakTheSame(one, two pair.Given) bool {
	b.Helper()
	isAsked, fault := b.LeakTheSame(one, two)
	if fault != "" {
		b.Fatalf("P17.2: %v, %v: %s%sit was %s", one, two, fault, rtl.Text(b.after), rtl.Text(b.before))
	}
	return isAsked
}

// overAny is a program over locations, by some giving that is valid.
func overAny(t *testing.T, r *rand.Rand, p rtl.Prog) rtl.Prog {
	t.Helper()
	q := p
	q.Funcs = nil
	for _, f := range p.Funcs {
		q.Funcs = append(q.Funcs, over(t, f, anyGiving(r, f)))
	}
	if !ltl.Good(q) || !isKin(p, q) {
		t.Fatalf("P17.2: %sis over locations %s", rtl.Text(p), rtl.Text(q))
	}
	return q
}

// over is a function over the locations of a giving.
func over(t *testing.T, f rtl.Func, giving []int) rtl.Func {
	t.Helper()
	s, ok := sceneOf(f)
	if !ok || !s.allows(giving) {
		t.Fatalf("P17.1: Valid(%s, %v)", dump(f), giving)
	}
	return located(s, giving)
}

// tally counts how runs end.
type tally struct {
	ends           map[int]int
	asked, unasked int
}

func newTally() *tally { return &tally{ends: map[int]int{}} }

// count asks all of a program and what it is made, with two lists of args and worlds.
func (c *tally) count(b *bench, one, two pair.Given) {
	b.Helper()
	c.ends[b.holds(one.Args, one.World)]++
	if b.leakTheSame(one, two) {
		c.asked++
	} else {
		c.unasked++
	}
}

func (c *tally) atLeast(t *testing.T, halt, fuel, stuck, asked, unasked int) {
	t.Helper()
	t.Logf("ends %v, leaks are asked of %d, not of %d", c.ends, c.asked, c.unasked)
	if c.ends[api.Halt] < halt || c.ends[api.Fuel] < fuel || c.ends[api.Stuck] < stuck || c.asked < asked || c.unasked < unasked {
		t.Errorf("P17.2: those made by chance end %v, leaks are asked of %d, not of %d", c.ends, c.asked, c.unasked)
	}
}

// TestGraphsByChance asks P17.2 of programs of graphs made by chance, with the giving that Colour gives, and with any.
func TestGraphsByChance(t *testing.T) {
	t.Parallel()
	c := newTally()
	for seed := range int64(600) {
		r := rand.New(rand.NewSource(seed))
		p := graphs.New(r.Intn, int(seed%3)*60).Again(2 + int(seed%4)).Program()
		params := len(p.Funcs[p.Main].Params)
		one, two := pair.Given{Args: somes(r, params), World: somes(r, 3)}, pair.Given{Args: somes(r, params), World: somes(r, 3)}
		for _, q := range []rtl.Prog{madeOf(t, p), overAny(t, r, p)} {
			c.count(newBench(t, p, q), one, two)
		}
	}
	c.atLeast(t, 1000, 5, 80, 800, 200)
}

// TestWildByChance has graphs whose nodes go on anywhere: much is Undef in them.
func TestWildByChance(t *testing.T) {
	t.Parallel()
	c := newTally()
	for seed := range int64(2500) {
		r := rand.New(rand.NewSource(seed))
		p := graphs.Wild(r.Intn, 0)
		params := len(p.Funcs[p.Main].Params)
		one, two := pair.Given{Args: somes(r, params), World: somes(r, 3)}, pair.Given{Args: somes(r, params), World: somes(r, 3)}
		for _, q := range []rtl.Prog{madeOf(t, p), overAny(t, r, p)} {
			b := newBench(t, p, q)
			b.Most = 300
			c.count(b, one, two)
		}
	}
	c.atLeast(t, 150, 800, 2000, 1000, 2000)
}

// built makes a source graphs, shorter ones or not.
func built(t *testing.T, text string, isShort bool) (*check.Program, rtl.Prog) {
	t.Helper()
	tree, at, e := ast.Parse(text)
	if e != api.OK {
		t.Fatalf("P5.1: %.3000s: %d at %v", text, e, at)
	}
	source, at, e := check.Check(tree)
	if e != api.OK {
		t.Fatalf("P7.1: %.3000s: %d at %v", text, e, at)
	}
	plain, _ := cmin.Gen(source)
	chosen, _ := sel.Select(plain)
	p, e := rtlgen.Build(chosen)
	if e != api.OK {
		t.Fatalf("P13.1: Build of %.3000s: %d", text, e)
	}
	if isShort {
		p, _ = opt.All(p)
	}
	return source, p
}

// TestTales has every kind of statement and expression: what a source does is done over locations.
func TestTales(t *testing.T) {
	t.Parallel()
	c := newTally()
	for _, tale := range sample.Tales() {
		for _, isShort := range []bool{false, true} {
			source, p := built(t, tale.Text, isShort)
			q := madeOf(t, p)
			b := newBench(t, p, q)
			c.ends[b.holds(tale.Args, tale.World)]++
			told, _ := clight.Run(source, tale.Args, tale.World, most)
			made := b.Lower(tale.Args, tale.World, 100*most+1000)
			if told.Kind == api.Halt && !trace.Same(made, told) || told.Kind == api.Fuel && !trace.Prefix(told.Events, made.Events) {
				t.Errorf("P17.2: %s: %swhere the source says %s", tale.Text, trace.Text(made), trace.Text(told))
			}
		}
	}
	c.atLeast(t, 200, 2, 20, 0, 0)
}

// TestSecrets has sources whose secrets are in no leak.
func TestSecrets(t *testing.T) {
	t.Parallel()
	for _, text := range sample.Secrets() {
		for _, isShort := range []bool{false, true} {
			_, p := built(t, text, isShort)
			b := newBench(t, p, madeOf(t, p))
			for i, s := range edges {
				one := pair.Given{Args: []int64{4, s, edges[(i*7+3)%len(edges)]}, World: []int64{s, 2}}
				two := pair.Given{Args: []int64{4, edges[(i*5+1)%len(edges)], 9}, World: []int64{-s}}
				if !b.leakTheSame(one, two) {
					t.Errorf("P13.1: %s with %d does not leak the same", text, s)
				}
			}
		}
	}
}

// TestSourcesByChance asks P17.2 of sources made by chance, each with two lists of args and worlds that are the same in what is public.
func TestSourcesByChance(t *testing.T) {
	t.Parallel()
	c := newTally()
	for seed := range int64(150) {
		r := rand.New(rand.NewSource(seed))
		_, p := built(t, sample.New(r.Intn, int(seed%3*60)).Program(), seed%2 == 0)
		one, two := pair.Given{Args: somes(r, 4), World: somes(r, 5)}, pair.Given{Args: somes(r, 4), World: somes(r, 5)}
		copy(two.Args, one.Args[:2])
		for _, q := range []rtl.Prog{madeOf(t, p), overAny(t, r, p)} {
			c.count(newBench(t, p, q), one, two)
		}
	}
	c.atLeast(t, 200, 5, 20, 200, 20)
}

// shower has so many parameters: it shows them, in their order, and answers a sum in which each has its own weight.
func shower(count int) rtl.Func {
	sum := count
	code := []rtl.Instr{constant(sum, 5)}
	for n := range count {
		code = append(code, output(n), fixed(api.Mul, sum, 10, sum), add(sum, n, sum))
	}
	return with(function(count+1, row(append(code, leave(sum))...)...), numbers(count)...)
}

// permutations gives the orders of some numbers.
func permutations(l []int, yield func([]int)) {
	if len(l) == 0 {
		yield(nil)
	}
	for n, first := range l {
		rest := slices.Delete(slices.Clone(l), n, n+1)
		permutations(rest, func(tail []int) { yield(append([]int{first}, tail...)) })
	}
}

// TestParametersChangePlaces has each order in which parameters' registers stand, when they come, where others came in; and arguments likewise.
func TestParametersChangePlaces(t *testing.T) {
	t.Parallel()
	args := l(11, 22, 33, 44, 55, 66)
	for count := range 7 {
		f := shower(count)
		caller := with(function(count+1, row(callOf(0, count, numbers(count)...), output(count), leave(count))...), numbers(count)...)
		permutations(order[:count], func(places []int) {
			p := rtl.Prog{Funcs: []rtl.Func{f, caller}, Main: 1}
			shown, called := over(t, f, append(slices.Clone(places), 3)), over(t, caller, append(slices.Clone(places), order[count%6]))
			for _, funcs := range [][]rtl.Func{{shown, madeOf(t, p).Funcs[1]}, {madeOf(t, p).Funcs[0], called}, {shown, called}} {
				q := rtl.Prog{Funcs: funcs, Main: 1}
				if !ltl.Good(q) {
					t.Fatalf("P17.2: places %v: %s", places, rtl.Text(q))
				}
				newBench(t, p, q).holds(args[:count], nil)
			}
		})
	}
}

// TestArguments hands on parameters in each order, some of them twice, where they are read behind as well, and where they are not.
func TestArguments(t *testing.T) {
	t.Parallel()
	r := rand.New(rand.NewSource(7))
	args := l(11, -22, 33, 44, 55, 66)
	for count := range 7 {
		for range 60 {
			given := make([]int, count)
			for n := range given {
				given[n] = r.Intn(6)
			}
			for _, answer := range []int{-1, 6, 0, 5} {
				code := []rtl.Instr{callOf(0, answer, given...)}
				for n := range r.Intn(7) {
					code = append(code, output(n))
				}
				main := with(function(8, row(append(code, leave(max(answer, 0)))...)...), 5, 3, 1, 0, 2, 4)
				p := rtl.Prog{Funcs: []rtl.Func{shower(count), main}, Main: 1}
				for _, q := range []rtl.Prog{madeOf(t, p), overAny(t, r, p)} {
					newBench(t, p, q).holds(args, nil)
				}
			}
		}
	}
}
