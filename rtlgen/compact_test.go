package rtlgen

import (
	"fmt"
	"math/rand"
	"slices"
	"testing"

	"plumbob/api"
	"plumbob/graphs"
	"plumbob/rtl"
	"plumbob/trace"
)

func nop(s int) rtl.Instr               { return rtl.Instr{Op: rtl.Nop, S: s} }
func constant(k int64, s int) rtl.Instr { return rtl.Instr{Op: rtl.Const, K: k, S: s} }
func cond(s, t int) rtl.Instr           { return rtl.Instr{Op: rtl.Cond, Sub: api.Eq, B: -1, S: s, T: t} }

var leave = rtl.Instr{Op: rtl.Return, A: -1}

// function is one around some nodes.
func function(entry int, code ...rtl.Instr) rtl.Func {
	return rtl.Func{Name: "f", Params: []int{1, 0}, Regs: 3, Frame: 8, Entry: entry, Code: code}
}

// dump tells all of a function; lists that are nil and empty ones alike.
func dump(f rtl.Func) string { return fmt.Sprintf("%+v", f) }

// compacts asks what Compact comes to, and that it stays so.
func compacts(t *testing.T, what string, f, want rtl.Func) {
	t.Helper()
	before := dump(f)
	got, e := Compact(f)
	if e != api.OK || dump(got) != dump(want) {
		t.Errorf("P13.2: Compact of %s, %s: %s (%d), want %s", what, dump(f), dump(got), e, dump(want))
		return
	}
	again, e := Compact(got)
	if e != api.OK || dump(again) != dump(got) {
		t.Errorf("P13.2: Compact of %s once more: %s (%d), first %s", what, dump(again), e, dump(got))
	}
	if dump(f) != before {
		t.Errorf("R4: Compact of %s changes it: %s, it was %s", what, dump(f), before)
	}
}

func TestCompact(t *testing.T) {
	k := constant
	for _, c := range []struct {
		name  string
		entry int
		code  []rtl.Instr
		want  []rtl.Instr
	}{
		{"the example", 0, []rtl.Instr{nop(2), leave, k(5, 1)}, []rtl.Instr{k(5, 1), leave}},
		{"one node", 0, []rtl.Instr{leave}, []rtl.Instr{leave}},
		{"nodes that are not reached", 2, []rtl.Instr{k(1, 2), nop(2), leave, cond(0, 1), nop(4)}, []rtl.Instr{leave}},
		{"a ring that is not reached", 0, []rtl.Instr{leave, nop(2), nop(1)}, []rtl.Instr{leave}},
		{"a row turned round", 2, []rtl.Instr{leave, k(1, 0), k(2, 1)}, []rtl.Instr{k(2, 1), k(1, 2), leave}},
		{"a Nop at the entry", 1, []rtl.Instr{leave, nop(0)}, []rtl.Instr{leave}},
		{"Nops behind one another", 3, []rtl.Instr{nop(4), nop(0), nop(1), k(1, 2), nop(5), k(2, 6), nop(7), leave}, []rtl.Instr{k(1, 1), k(2, 2), leave}},
		{"Nops ahead of S and T", 0, []rtl.Instr{cond(1, 2), nop(4), nop(3), nop(5), k(1, 6), k(2, 6), leave}, []rtl.Instr{cond(1, 3), k(1, 2), leave, k(2, 2)}},
		{"Nops to one node", 0, []rtl.Instr{cond(1, 2), nop(3), nop(3), leave}, []rtl.Instr{cond(1, 1), leave}},
		{"a loop with Nops", 0, []rtl.Instr{nop(1), cond(2, 4), k(1, 3), nop(0), leave}, []rtl.Instr{cond(1, 2), k(1, 0), leave}},
		{"a ring of one", 0, []rtl.Instr{nop(0)}, []rtl.Instr{nop(0)}},
		{"a ring of one, entered", 1, []rtl.Instr{nop(0), k(1, 0)}, []rtl.Instr{k(1, 1), nop(1)}},
		{"a ring of one behind a Nop", 2, []rtl.Instr{leave, nop(1), nop(1)}, []rtl.Instr{nop(0)}},
		{"a ring of two", 1, []rtl.Instr{nop(1), nop(0)}, []rtl.Instr{nop(0)}},
		{"a ring of three, entered at its end", 3, []rtl.Instr{nop(1), nop(2), nop(0), k(1, 2)}, []rtl.Instr{k(1, 1), nop(1)}},
		{"a ring that two ways reach", 0, []rtl.Instr{cond(3, 1), nop(2), nop(4), k(1, 4), nop(5), nop(2)}, []rtl.Instr{cond(1, 2), k(1, 2), nop(2)}},
		{"a ring at S and at T", 0, []rtl.Instr{cond(2, 1), nop(2), nop(1)}, []rtl.Instr{cond(1, 1), nop(1)}},
		{"two rings", 0, []rtl.Instr{cond(4, 1), nop(2), nop(1), nop(4), nop(3)}, []rtl.Instr{cond(1, 2), nop(1), nop(2)}},
		{"a node that goes on at itself", 0, []rtl.Instr{k(1, 0)}, []rtl.Instr{k(1, 0)}},
		{"S ahead of T", 0, []rtl.Instr{cond(3, 1), k(1, 2), leave, k(3, 2)}, []rtl.Instr{cond(1, 3), k(3, 2), leave, k(1, 2)}},
		{"T that is met behind S", 0, []rtl.Instr{cond(1, 2), k(1, 2), k(2, 3), leave}, []rtl.Instr{cond(1, 2), k(1, 2), k(2, 3), leave}},
		{"choices within S", 0, []rtl.Instr{cond(1, 2), cond(3, 4), cond(5, 6), k(3, 7), k(4, 7), k(5, 7), k(6, 7), leave}, []rtl.Instr{cond(1, 5), cond(2, 4), k(3, 3), leave, k(4, 3), cond(6, 7), k(5, 3), k(6, 3)}},
		{"back to the entry", 2, []rtl.Instr{k(1, 2), leave, cond(0, 1)}, []rtl.Instr{cond(1, 2), k(1, 0), leave}},
		{"T back to the entry", 2, []rtl.Instr{k(1, 2), leave, cond(1, 0)}, []rtl.Instr{cond(1, 2), leave, k(1, 0)}},
		{"S and T alike", 0, []rtl.Instr{cond(0, 0)}, []rtl.Instr{cond(0, 0)}},
	} {
		compacts(t, c.name, function(c.entry, c.code...), function(0, c.want...))
	}
}

// TestFields: S and T that the table does not name are 0, and all other fields stay, be they named or not.
func TestFields(t *testing.T) {
	for op := rtl.Const; op <= rtl.Out; op++ {
		i := rtl.Instr{Op: op, A: 1, B: 2, D: 1, K: 5, Args: []int{2, 1, 0}, S: 1, T: 2}
		switch op {
		case rtl.Un:
			i.Sub = api.Not
		case rtl.Load, rtl.Store:
			i.Sub = 4
		case rtl.Bin, rtl.Cond:
			i.Sub = api.Lt
		default:
			i.Sub = 77
		}
		want := i
		code := []rtl.Instr{want, leave}
		switch op {
		case rtl.Cond:
			i.T = 1
			code[0].T = 1
		case rtl.Return:
			code = []rtl.Instr{want}
			code[0].S, code[0].T = 0, 0
		default:
			code[0].T = 0
		}
		for _, far := range []int{i.T, -1, -1 << 63, 1<<63 - 1} {
			if op != rtl.Cond {
				i.T = far
			}
			if op == rtl.Return {
				i.S = -far
			}
			compacts(t, fmt.Sprintf("an instruction with Op %d", op), function(0, i, leave), function(0, code...))
		}
	}
	// Of a ring the least Nop stays, with what it has.
	of := func(k int64, s int) rtl.Instr {
		return rtl.Instr{Op: rtl.Nop, Sub: 9, A: -7, B: 99, D: -1 << 63, K: k, Args: []int{-1, 77}, S: s, T: 31}
	}
	stays := of(1, 1)
	stays.T = 0
	compacts(t, "a ring of unlike Nops", function(0, constant(1, 3), of(1, 2), of(2, 3), of(3, 1)), function(0, constant(1, 1), stays))
	// The function's own fields stay, but the entry.
	f := rtl.Func{Name: "\x00 any \xff", Params: []int{4, 0, 3}, Regs: 5000, Frame: 65536, Entry: 1, Code: []rtl.Instr{leave, nop(0)}}
	want := f
	want.Entry, want.Code = 0, []rtl.Instr{leave}
	compacts(t, "a function", f, want)
}

// byItself tells, by Good, whether a function is well formed, when all that it calls and all globals that it names are there.
func byItself(f rtl.Func) bool {
	f.Code = slices.Clone(f.Code)
	p := rtl.Prog{Globals: []int{0}, Funcs: []rtl.Func{f}}
	for n := range f.Code {
		i := &f.Code[n]
		switch i.Op {
		case rtl.Global:
			i.Sub, i.K = 0, 0
		case rtl.Call:
			called := rtl.Func{Regs: len(i.Args), Code: []rtl.Instr{leave}}
			for r := range i.Args {
				called.Params = append(called.Params, r)
			}
			i.Sub = len(p.Funcs)
			p.Funcs = append(p.Funcs, called)
		}
	}
	return rtl.Good(p)
}

// refuses asks whether Compact takes a function just if it is well formed by itself.
func refuses(t *testing.T, what string, f rtl.Func, want bool) {
	t.Helper()
	before := dump(f)
	got, e := Compact(f)
	if !byItself(f) != want {
		t.Errorf("P12.1: Good of a function with %s: %s", what, before)
	}
	if (e == api.EARG) != want || e != api.EARG && e != api.OK || want && dump(got) != dump(rtl.Func{}) {
		t.Errorf("P13.2: Compact of a function with %s, %s: %s (%d)", what, before, dump(got), e)
	}
	if l := Chain([]rtl.Func{f}); want && (len(l) != 1 || dump(l[0]) != before) || dump(f) != before {
		t.Errorf("P13.3: Chain of a function with %s, %s: %+v", what, before, l)
	}
}

func TestRefusals(t *testing.T) {
	for _, c := range graphs.Cases() {
		refuses(t, c.Name, c.Func, !c.IsRight)
	}
}

// model is a second reading of P13.2.
type model struct {
	f       rtl.Func
	numbers map[int]int
	order   []int
}

func (m *model) landing(n int) int {
	var way []int
	for m.f.Code[n].Op == rtl.Nop {
		if at := slices.Index(way, n); at >= 0 {
			return slices.Min(way[at:])
		}
		way = append(way, n)
		n = m.f.Code[n].S
	}
	return n
}

func (m *model) visit(n int) {
	n = m.landing(n)
	if _, ok := m.numbers[n]; ok {
		return
	}
	m.numbers[n] = len(m.order)
	m.order = append(m.order, n)
	i := m.f.Code[n]
	if i.Op != rtl.Return {
		m.visit(i.S)
	}
	if i.Op == rtl.Cond {
		m.visit(i.T)
	}
}

func modelled(f rtl.Func) rtl.Func {
	m := &model{f: f, numbers: map[int]int{}}
	m.visit(f.Entry)
	f.Entry, f.Code = 0, nil
	for _, n := range m.order {
		i := m.f.Code[n]
		s, t := i.S, i.T
		i.S, i.T = 0, 0
		if i.Op != rtl.Return {
			i.S = m.numbers[m.landing(s)]
		}
		if i.Op == rtl.Cond {
			i.T = m.numbers[m.landing(t)]
		}
		f.Code = append(f.Code, i)
	}
	return f
}

// doesTheSame asks that a program with its functions compact does the same but for steps: it makes no more of them.
func doesTheSame(t *testing.T, p rtl.Prog, args, world []int64, fuel int) int {
	t.Helper()
	compact := p
	compact.Funcs = Chain(p.Funcs)
	if !rtl.Good(compact) {
		t.Fatalf("P13.2: %sand compact it is not well formed: %s", rtl.Text(p), rtl.Text(compact))
	}
	a, e := rtl.Run(p, args, world, fuel)
	b, f := rtl.Run(compact, args, world, fuel)
	if e != api.OK || f != api.OK {
		t.Fatalf("P12.1: %s: %d, compact %d", rtl.Text(p), e, f)
	}
	isSame := trace.Same(a, b) && trace.Leaks(a, b)
	if a.Kind == api.Fuel {
		// It may be further; but then the other one comes there, too: between two steps there are not more Nops than nodes.
		far, _ := rtl.Run(p, args, world, min(10000000, fuel*200))
		isSame = isBeginning(a, b) && isBeginning(b, far)
	}
	if !isSame || b.Steps > a.Steps {
		t.Fatalf("P13.2: %s%v, %v with fuel %d: %+v\ncompact: %s%+v", rtl.Text(p), args, world, fuel, a, rtl.Text(compact), b)
	}
	return a.Kind
}

func isBeginning(a, b api.Run) bool {
	return trace.Prefix(a.Events, b.Events) && len(a.Leaks) <= len(b.Leaks) && slices.Equal(a.Leaks, b.Leaks[:len(a.Leaks)]) && (a.Kind == api.Fuel || trace.Same(a, b))
}

// TestCompactByChance holds functions made by chance against the model, and runs them.
func TestCompactByChance(t *testing.T) {
	ends := map[int]int{}
	shorter, rings := 0, 0
	for seed := range int64(12000) {
		r := rand.New(rand.NewSource(seed))
		p := graphs.Wild(r.Intn, int(seed%4)*3)
		if seed%8 == 0 {
			p = graphs.New(r.Intn, int(seed%3)*20).Program()
		}
		if seed%2 == 0 {
			p = graphs.Scrambled(r.Intn, p)
		}
		for _, f := range p.Funcs {
			want := modelled(f)
			compacts(t, "one made by chance", f, want)
			if len(want.Code) < len(f.Code) {
				shorter++
			}
			if slices.ContainsFunc(want.Code, func(i rtl.Instr) bool { return i.Op == rtl.Nop }) {
				rings++
			}
		}
		ends[doesTheSame(t, p, somes(r, len(p.Funcs[p.Main].Params)), somes(r, 3), r.Intn(300))]++
	}
	t.Logf("ends %v, %d functions are shorter, %d have rings", ends, shorter, rings)
	if ends[api.Halt] < 1000 || ends[api.Stuck] < 1000 || ends[api.Fuel] < 1000 || shorter < 10000 || rings < 2000 {
		t.Errorf("P13.2: those made by chance end %v, %d are shorter, %d have rings", ends, shorter, rings)
	}
}

// TestRefusalsByChance has functions with some fields of any kind.
func TestRefusalsByChance(t *testing.T) {
	refused := 0
	for seed := range int64(20000) {
		f := graphs.Broken(rand.New(rand.NewSource(seed)).Intn)
		isWrong := !byItself(f)
		refuses(t, "any number", f, isWrong)
		if isWrong {
			refused++
		}
	}
	if refused < 4000 || refused > 16000 {
		t.Errorf("P13.2: %d are refused", refused)
	}
}

// TestGreatGraphs has as many nodes as there may be: all Nops in a row or a ring, all branches, each S or T deeper than the last.
func TestGreatGraphs(t *testing.T) {
	const most = 5000
	row, ring, deep, wide := make([]rtl.Instr, most), make([]rtl.Instr, most), make([]rtl.Instr, most), make([]rtl.Instr, most)
	for n := range most {
		row[n], ring[n] = nop(max(n-1, 0)), nop((n+7)%most)
		deep[n], wide[n] = cond(max(n-1, 0), most-1), cond(n/2, max(n-1, 0))
	}
	row[0], deep[0] = leave, leave
	compacts(t, "a row", function(most-1, row...), function(0, leave))
	compacts(t, "a ring", function(most-1, ring...), function(0, nop(0)))
	for _, f := range []rtl.Func{function(most-1, deep...), function(most-1, wide...)} {
		compacts(t, "branches", f, modelled(f))
	}
	// Half of them branches, and each comes to the end of all Nops.
	for n := range most {
		if n >= most/2 {
			wide[n] = cond(most/2-1, max(n-1, most/2))
		} else {
			wide[n] = nop(max(n-1, 0))
		}
	}
	got, e := Compact(function(most-1, wide...))
	if e != api.OK || len(got.Code) != most/2+1 || got.Code[0].S != 1 || got.Code[1].Op != rtl.Nop || got.Code[1].S != 1 {
		t.Errorf("P13.2: Compact of branches and Nops: %d nodes (%d)", len(got.Code), e)
	}
}

// roomy is a function whose lists have room behind them, and those of two nodes are one; and what tells whether nothing of all that was changed.
func roomy() (f rtl.Func, isUnchanged func() bool) {
	shared := []int{1, 2, 77, 78}
	f = function(1, leave, nop(2), rtl.Instr{Op: rtl.Call, Args: shared[:2], D: -1, S: 3}, rtl.Instr{Op: rtl.Call, Args: shared[:2], D: -1, S: 0, T: 5}, nop(4))
	params := []int{0, 2, 79}
	f.Params = params[:2]
	f.Code = f.Code[:4]
	before := fmt.Sprint(f, shared, params, f.Code[:5])
	return f, func() bool { return fmt.Sprint(f, shared, params, f.Code[:5]) == before }
}

// TestNewMemory: what is handed in is not changed, spare room included, and what is answered is new memory, each list by itself.
func TestNewMemory(t *testing.T) {
	for _, change := range []func(f *rtl.Func){func(f *rtl.Func) {}, func(f *rtl.Func) { f.Regs = 1 }} {
		f, isUnchanged := roomy()
		change(&f)
		f.Code = f.Code[:4:5]
		if _, e := Compact(f); (e == api.OK) != (f.Regs == 3) {
			t.Fatalf("P13.2: Compact: %d", e)
		}
		first, second := Chain([]rtl.Func{f, f}), Chain([]rtl.Func{f})
		told := fmt.Sprint(second)
		// Where each list is its own, each number is changed once.
		for _, g := range first {
			for n := range g.Code {
				for at := range g.Code[n].Args {
					g.Code[n].Args[at] += 100
				}
			}
			g.Params[0] += 100
		}
		for _, g := range first {
			for _, i := range g.Code {
				if i.Op == rtl.Call && !slices.Equal(i.Args, []int{101, 102}) || g.Params[0] != 100 {
					t.Errorf("R4: lists of one answer share memory: %s", dump(g))
				}
			}
		}
		for _, g := range first {
			spoilFunc(g)
		}
		clear(first[:cap(first)])
		if !isUnchanged() || fmt.Sprint(second) != told || fmt.Sprint(Chain([]rtl.Func{f})) != told {
			t.Errorf("R4: Chain of %s", dump(f))
		}
		f.Params[0], f.Code[2].Args[0] = 5, 6
		clear(f.Code)
		if fmt.Sprint(second) != told {
			t.Errorf("R4: what Chain answered hangs on what was handed in: %v, it was %s", second, told)
		}
	}
}

func TestChain(t *testing.T) {
	if l := Chain(nil); len(l) != 0 {
		t.Errorf("P13.3: Chain of nothing: %v", l)
	}
	if l := Chain([]rtl.Func{}); len(l) != 0 {
		t.Errorf("P13.3: Chain of an empty list: %v", l)
	}
	good := function(2, leave, constant(3, 0), nop(1), nop(3))
	compact := function(0, constant(3, 1), leave)
	wrong := function(0, rtl.Instr{Op: rtl.Nop, S: 1, T: 9}, nop(0), rtl.Instr{Op: 99, Args: []int{-1}, T: -5})
	for _, c := range []struct{ given, want []rtl.Func }{
		{[]rtl.Func{good}, []rtl.Func{compact}}, {[]rtl.Func{wrong}, []rtl.Func{wrong}}, {[]rtl.Func{{}}, []rtl.Func{{}}},
		{[]rtl.Func{good, wrong, {}, compact, good}, []rtl.Func{compact, wrong, {}, compact, compact}}, {[]rtl.Func{wrong, good}, []rtl.Func{wrong, compact}},
		{slices.Repeat([]rtl.Func{good}, 300), slices.Repeat([]rtl.Func{compact}, 300)},
	} {
		before := fmt.Sprint(c.given)
		if l := Chain(c.given); fmt.Sprint(l) != fmt.Sprint(c.want) || fmt.Sprint(c.given) != before {
			t.Errorf("P13.3: Chain of %v: %v, want %v", before, l, c.want)
		}
	}
}
