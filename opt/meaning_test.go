package opt

import (
	"math/rand"
	"slices"
	"testing"

	"plumbob/api"
	"plumbob/ast"
	"plumbob/check"
	"plumbob/clight"
	"plumbob/cmin"
	"plumbob/graphs"
	"plumbob/rtl"
	"plumbob/rtlgen"
	"plumbob/sample"
	"plumbob/sel"
	"plumbob/trace"
)

// How a function is treated.
const (
	asItIs = iota
	asFold
	asCse
	asDead
	asAll
	asRounds
	treatments
)

// answered is a program whose functions are treated each in some way.
func answered(t *testing.T, p rtl.Prog, how []int) rtl.Prog {
	t.Helper()
	all, e := All(p)
	rounds, f := Rounds(p, 3)
	if e != api.OK || f != api.OK || !rtl.Good(all) || !rtl.Good(rounds) {
		t.Fatalf("P15.1: All, Rounds of %s: %d, %d, %s%s", rtl.Text(p), e, f, rtl.Text(all), rtl.Text(rounds))
	}
	made := p
	made.Funcs = slices.Clone(p.Funcs)
	for n, way := range how {
		switch way {
		case asFold, asCse, asDead:
			made.Funcs[n] = passes()[way-asFold].answer(t, p.Funcs[n])
		case asAll:
			made.Funcs[n] = all.Funcs[n]
		case asRounds:
			made.Funcs[n] = rounds.Funcs[n]
		}
		f, g := p.Funcs[n], made.Funcs[n]
		if g.Name != f.Name || !slices.Equal(g.Params, f.Params) || g.Frame != f.Frame {
			t.Fatalf("P15.1: %s treated as %d: %s", told(f), way, told(g))
		}
	}
	if !rtl.Good(made) {
		t.Fatalf("P15.1: %sis no more well formed: %s", rtl.Text(p), rtl.Text(made))
	}
	return made
}

// everyWay are programs whose functions are all treated alike, and some with each in a way of its own.
func everyWay(t *testing.T, r *rand.Rand, p rtl.Prog) []rtl.Prog {
	t.Helper()
	var l []rtl.Prog
	for way := asFold; way < treatments; way++ {
		l = append(l, answered(t, p, slices.Repeat([]int{way}, len(p.Funcs))))
	}
	how := make([]int, len(p.Funcs))
	for n := range how {
		how[n] = r.Intn(treatments)
	}
	return append(l, answered(t, p, how))
}

// bench runs a program and what it is made.
type bench struct {
	*testing.T
	before, after rtl.Prog
	args, world   []int64
}

func (b *bench) run(p rtl.Prog, fuel int) api.Run {
	b.Helper()
	r, e := rtl.Run(p, b.args, b.world, fuel)
	if e != api.OK {
		b.Fatalf("P12.1: %s: Run(%v, %v, %d): %d", rtl.Text(p), b.args, b.world, fuel, e)
	}
	return r
}

// nodes is how many nodes a function has at most: between two steps of what it is made, no more of a program's steps are left out.
func nodes(p rtl.Prog) int {
	most := 0
	for _, f := range p.Funcs {
		most = max(most, len(f.Code))
	}
	return most
}

// isPart tells whether a list is another one with some left out.
func isPart(part, whole []api.Leak) bool {
	for _, k := range whole {
		if len(part) > 0 && part[0] == k {
			part = part[1:]
		}
	}
	return len(part) == 0
}

// most is how much fuel a run is given that may not end.
const most = 3000

// holds asks P15.2 at each fuel (of a long run, at some): no less is done than the program does, and no more than it does with more fuel; and nothing leaks that did not. It tells how the program's run ends.
func (b *bench) holds() int {
	b.Helper()
	whole := b.run(b.before, most)
	if whole.Kind == api.Stuck {
		return api.Stuck
	}
	last := whole.Steps + 1
	far := whole
	if whole.Kind == api.Fuel {
		last = 200
		far = b.run(b.before, min(10000000, (last+1)*nodes(b.before)))
		if far.Kind == api.Stuck {
			return api.Stuck
		}
	}
	for fuel := 0; fuel <= last; fuel += 1 + last/150 {
		b.holdsAt(fuel, far)
	}
	if whole.Kind == api.Halt {
		b.holdsAt(whole.Steps, far)
		b.holdsAt(whole.Steps-1, far)
	}
	return whole.Kind
}

func (b *bench) holdsAt(fuel int, far api.Run) {
	b.Helper()
	source, made := b.run(b.before, fuel), b.run(b.after, fuel)
	isRight := trace.Prefix(source.Events, made.Events) && trace.Prefix(made.Events, far.Events) && isPart(made.Leaks, far.Leaks) && made.Steps <= source.Steps
	switch made.Kind {
	case api.Halt:
		isRight = isRight && trace.Same(made, far)
	case api.Fuel:
		isRight = isRight && source.Kind == api.Fuel
	default:
		isRight = false
	}
	if !isRight {
		b.Fatalf("P15.2: with %v / %v and fuel %d: %+v, it was %+v, and further %+v\n%sit was %s", b.args, b.world, fuel, made, source, far, rtl.Text(b.after), rtl.Text(b.before))
	}
}

// leakTheSame tells whether a program leaks the same at each fuel on two lists of args and worlds, and is not Stuck; and asks that then what it is made does.
func (b *bench) leakTheSame(args, world []int64) bool {
	b.Helper()
	other := *b
	other.args, other.world = args, world
	one, two := b.run(b.before, most), other.run(b.before, most)
	if one.Kind == api.Stuck || !trace.Leaks(one, two) || one.Steps != two.Steps {
		return false
	}
	for fuel := 0; fuel < one.Steps; fuel += 1 + one.Steps/150 {
		if !trace.Leaks(b.run(b.before, fuel), other.run(b.before, fuel)) {
			return false
		}
	}
	last := most / nodes(b.before) // so far what is left out of the program is known
	if one.Kind == api.Halt {
		last = one.Steps
	}
	for fuel := 0; fuel <= last; fuel += 1 + last/150 {
		x, y := b.run(b.after, fuel), other.run(b.after, fuel)
		if !trace.Leaks(x, y) || x.Steps != y.Steps {
			b.Fatalf("P15.2: with %v / %v and %v / %v: with fuel %d %+v\nand %+v\n%sit was %s", b.args, b.world, args, world, fuel, x, y, rtl.Text(b.after), rtl.Text(b.before))
		}
	}
	return true
}

// TestGraphsByChance asks P15.2 of programs of graphs made by chance.
func TestGraphsByChance(t *testing.T) {
	t.Parallel()
	ends, shorter, asked, unlike := map[int]int{}, 0, 0, 0
	for seed := range int64(700) {
		r := rand.New(rand.NewSource(seed))
		p := graphs.New(r.Intn, int(seed%3)*60).Again(2 + int(seed%4)).Program()
		if seed%10 == 9 {
			p = graphs.Wild(r.Intn, 1)
		}
		params := len(p.Funcs[p.Main].Params)
		args, world, secret := somes(r, params), somes(r, 3), somes(r, params)
		for _, q := range everyWay(t, r, p) {
			b := &bench{t, p, q, args, world}
			ends[b.holds()]++
			if b.leakTheSame(secret, somes(r, 3)) {
				asked++
			} else {
				unlike++
			}
			if b.run(q, most).Steps < b.run(p, most).Steps {
				shorter++
			}
		}
	}
	t.Logf("ends %v, %d take fewer steps, leaks are asked of %d, not of %d", ends, shorter, asked, unlike)
	if ends[api.Halt] < 2500 || ends[api.Fuel] < 100 || ends[api.Stuck] < 300 || shorter < 1000 || asked < 2000 || unlike < 500 {
		t.Errorf("P15.2: those made by chance end %v, %d take fewer steps, leaks are asked of %d, not of %d", ends, shorter, asked, unlike)
	}
}

// built makes a source graphs.
func built(t *testing.T, text string) (*check.Program, rtl.Prog) {
	t.Helper()
	tree, at, e := ast.Parse(text)
	if e != api.OK {
		t.Fatalf("P5.1: %.3000s: %d at %v", text, e, at)
	}
	source, at, e := check.Check(tree)
	if e != api.OK {
		t.Fatalf("P7.1: %.3000s: %d at %v", text, e, at)
	}
	plain, _ := cmin.Gen(source)
	chosen, _ := sel.Select(plain)
	p, e := rtlgen.Build(chosen)
	if e != api.OK {
		t.Fatalf("P13.1: Build of %.3000s: %d", text, e)
	}
	return source, p
}

// TestTales has every kind of statement and expression: what a source does its graphs do when they are shorter.
func TestTales(t *testing.T) {
	r := rand.New(rand.NewSource(1))
	ends := map[int]int{}
	for _, tale := range sample.Tales() {
		source, p := built(t, tale.Text)
		for _, q := range everyWay(t, r, p) {
			b := &bench{t, p, q, tale.Args, tale.World}
			ends[b.holds()]++
			told, _ := clight.Run(source, tale.Args, tale.World, most)
			made := b.run(q, 100*most+1000)
			if told.Kind == api.Halt && !trace.Same(made, told) || told.Kind == api.Fuel && !trace.Prefix(told.Events, made.Events) {
				t.Errorf("P15.2: %s: %swhere the source says %s", tale.Text, trace.Text(made), trace.Text(told))
			}
		}
	}
	if ends[api.Halt] < 700 || ends[api.Fuel] < 10 || ends[api.Stuck] < 100 {
		t.Errorf("P15.2: they end %v", ends)
	}
}

// TestSecrets has sources whose secrets are in no leak.
func TestSecrets(t *testing.T) {
	t.Parallel()
	r := rand.New(rand.NewSource(2))
	for _, text := range sample.Secrets() {
		_, p := built(t, text)
		for _, q := range everyWay(t, r, p) {
			for i, s := range edges {
				b := &bench{t, p, q, []int64{4, s, edges[(i*7+3)%len(edges)]}, []int64{s, 2}}
				if !b.leakTheSame([]int64{4, edges[(i*5+1)%len(edges)], 9}, []int64{-s}) {
					t.Errorf("P13.1: %s with %d does not leak the same", text, s)
				}
			}
		}
	}
}

// TestSourcesByChance asks P15.2 of sources made by chance, each with two lists of args and worlds that are the same in what is public.
func TestSourcesByChance(t *testing.T) {
	t.Parallel()
	ends, shorter, asked, unlike := map[int]int{}, 0, 0, 0
	for seed := range int64(200) {
		r := rand.New(rand.NewSource(seed))
		_, p := built(t, sample.New(r.Intn, int(seed%3*60)).Program())
		args, world, secret := somes(r, 4), somes(r, 5), somes(r, 4)
		copy(secret, args[:2])
		for _, q := range everyWay(t, r, p) {
			b := &bench{t, p, q, args, world}
			ends[b.holds()]++
			if b.leakTheSame(secret, somes(r, 5)) {
				asked++
			} else {
				unlike++
			}
			if b.run(q, most).Steps < b.run(p, most).Steps {
				shorter++
			}
		}
	}
	t.Logf("ends %v, %d take fewer steps, leaks are asked of %d, not of %d", ends, shorter, asked, unlike)
	if ends[api.Halt] < 700 || ends[api.Fuel] < 10 || ends[api.Stuck] < 50 || shorter < 300 || asked < 500 || unlike < 50 {
		t.Errorf("P15.2: those made by chance end %v, %d take fewer steps, leaks are asked of %d, not of %d", ends, shorter, asked, unlike)
	}
}
