package gen_test

import (
	"fmt"
	"math/rand"
	"slices"
	"testing"
	"time"

	"plumbob/api"
	"plumbob/asm"
	"plumbob/codes"
	"plumbob/gen"
	"plumbob/listings"
	"plumbob/trace"
)

// same and other are instructions that peeping asks about; jmp, jcc, label and ret are codes'.
var (
	same  = codes.MovR(3, 3)
	other = codes.MovR(3, 1)
	jmp   = codes.Jmp
	jcc   = func(l int) asm.Ins { return codes.Jcc(api.Eq, l) }
	label = codes.Label
	ret   = codes.Ret()
)

func code(l ...asm.Ins) []asm.Ins { return l }

// peeped is what Peep leaves of some code. It asks that nothing is changed, and nothing shared.
func peeped(t *testing.T, l []asm.Ins) []asm.Ins {
	t.Helper()
	full := append(append(make([]asm.Ins, 0, len(l)+3), l...), jmp(1), label(1), same)[:len(l)]
	before := slices.Clone(full[:cap(full)])
	f := gen.Peep(asm.Func{Name: "a name", Code: full})
	answer := slices.Clone(f.Code)
	again := gen.Peep(asm.Func{Code: full})
	clear(again.Code[:cap(again.Code)])
	if f.Name != "a name" || again.Name != "" || !slices.Equal(f.Code, answer) || !slices.Equal(full[:cap(full)], before) {
		t.Fatalf("R4: Peep of %v: %v", l, f)
	}
	clear(f.Code[:cap(f.Code)])
	if !slices.Equal(full[:cap(full)], before) {
		t.Fatalf("R4: Peep of %v shares memory with it", l)
	}
	return answer
}

// TestPeep has code written out.
func TestPeep(t *testing.T) {
	for _, c := range []struct {
		what       string
		code, want []asm.Ins
	}{
		{"the chapter's", code(same, jmp(1), label(1), ret), code(ret)},
		{"nothing", nil, nil},
		{"moves to themselves", code(codes.MovR(0, 0), codes.MovR(4, 4), codes.MovR(15, 15), ret), code(ret)},
		{"another move", code(other, codes.MovR(1, 3), codes.MovR(0, 4), ret), code(other, codes.MovR(1, 3), codes.MovR(0, 4), ret)},
		{"what is no move", code(codes.Alu(api.Or, 3, 3), codes.Alu(api.Mul, 1, 1), codes.Cmp(3, 3), codes.Ext(api.Ext8, 3, 3), codes.Lea(3, 3, 0), codes.Load(8, 3, 3, 0), codes.Store(8, 3, 0, 3), codes.AluK(api.Add, 3, 0), codes.Shift(api.Shl, 3, 0), codes.MovK(0, 0), ret),
			code(codes.Alu(api.Or, 3, 3), codes.Alu(api.Mul, 1, 1), codes.Cmp(3, 3), codes.Ext(api.Ext8, 3, 3), codes.Lea(3, 3, 0), codes.Load(8, 3, 3, 0), codes.Store(8, 3, 0, 3), codes.AluK(api.Add, 3, 0), codes.Shift(api.Shl, 3, 0), codes.MovK(0, 0), ret)},
		{"a jump over labels", code(jmp(3), label(1), label(2), label(3), label(4), ret), code(ret)},
		{"a jump to the first of them", code(jmp(1), label(1), label(2), ret), code(ret)},
		{"a jump over more", code(jmp(1), ret, label(1), ret), code(jmp(1), ret, label(1), ret)},
		{"a jump over a move to itself", code(jmp(1), same, label(1), same, label(2), ret), code(ret)},
		{"a jump over another", code(jmp(2), jmp(3), label(2), label(3), ret), code(ret)},
		{"a jump over one that stays", code(jmp(2), jmp(4), label(2), label(3), ret, label(4), ret), code(jmp(2), jmp(4), label(2), ret, label(4), ret)},
		{"a jump over one that stays, to it", code(jmp(2), label(2), jmp(4), label(3), ret, label(4), ret), code(jmp(4), ret, label(4), ret)},
		{"a jump back", code(label(1), other, jmp(1)), code(label(1), other, jmp(1))},
		{"a jump to itself", code(label(1), jmp(1)), code(label(1), jmp(1))},
		{"a jump back over labels", code(label(1), label(2), jmp(1), label(3), ret), code(label(1), jmp(1), ret)},
		{"two jumps", code(jmp(1), other, jmp(1), label(1), ret), code(jmp(1), other, label(1), ret)},
		{"many jumps", code(jmp(1), jmp(1), jmp(1), label(1), ret), code(ret)},
		{"a choice", code(jcc(1), label(1), ret), code(jcc(1), label(1), ret)},
		{"a choice, and a jump", code(jcc(1), jmp(1), label(1), ret), code(jcc(1), label(1), ret)},
		{"a jump, and a choice", code(jmp(1), jcc(1), label(1), ret), code(jmp(1), jcc(1), label(1), ret)},
		{"labels", code(label(5), ret, label(6), label(7), ret), code(ret, ret)},
		{"labels of a call and a ret", code(label(5), codes.Call(5), asm.Ins{Op: asm.Ret, L: 6}, label(6), ret), code(codes.Call(5), asm.Ins{Op: asm.Ret, L: 6}, ret)},
		{"labels that are named later", code(label(5), label(6), other, jcc(6), jmp(5)), code(label(5), label(6), other, jcc(6), jmp(5))},
		{"a label that is named no more", code(jmp(1), label(1), jmp(2), label(2), jcc(3), label(3), ret), code(jcc(3), label(3), ret)},
		{"a label 0", code(jmp(0), label(0), ret, label(0)), code(ret)},
		{"a jump to a label 0 that is nowhere", code(jmp(0), ret), code(jmp(0), ret)},
		{"a jump at the end", code(ret, jmp(1)), code(ret, jmp(1))},
		{"a jump at the end to labels there", code(ret, jmp(1), label(1)), code(ret)},
		{"all", code(same, jmp(1), label(1), label(2)), nil},
		{"great numbers", code(jmp(10000000), label(10000000), jcc(9999999), jmp(-1<<63), label(-1<<63), label(9999999), ret), code(jcc(9999999), label(9999999), ret)},
		{"a label twice", code(jmp(1), ret, label(1), jmp(1), label(1), ret), code(jmp(1), ret, label(1), label(1), ret)},
	} {
		if got := peeped(t, c.code); !slices.Equal(got, c.want) {
			t.Errorf("P21.2: Peep of %s: %v, want %v", c.what, got, c.want)
		}
	}
}

// isIdle tells whether an instruction is one of those that Peep leaves out, as the chapter says it.
func isIdle(l []asm.Ins, at int) bool {
	i := l[at]
	switch i.Op {
	case asm.MovR:
		return i.R == i.M
	case asm.Label:
		return !slices.ContainsFunc(l, func(j asm.Ins) bool { return (j.Op == asm.Jmp || j.Op == asm.Jcc) && j.L == i.L })
	case asm.Jmp:
		for at++; at < len(l) && l[at].Op == asm.Label; at++ {
			if l[at].L == i.L {
				return true
			}
		}
	}
	return false
}

// oneByOne leaves out one such instruction after the other, picked by chance, till there is none.
func oneByOne(pick func(int) int, l []asm.Ins) []asm.Ins {
	l = slices.Clone(l)
	for {
		var idle []int
		for at := range l {
			if isIdle(l, at) {
				idle = append(idle, at)
			}
		}
		if len(idle) == 0 {
			return l
		}
		at := idle[pick(len(idle))]
		l = slices.Delete(l, at, at+1)
	}
}

// TestPeepAll has all code of a few instructions.
func TestPeepAll(t *testing.T) {
	t.Parallel()
	r := rand.New(rand.NewSource(1))
	letters := code(same, other, jmp(1), jmp(2), jcc(1), label(1), label(2), ret)
	var each func(l []asm.Ins)
	each = func(l []asm.Ins) {
		if got, want := peeped(t, l), oneByOne(r.Intn, l); !slices.Equal(got, want) {
			t.Fatalf("P21.2: Peep of %v: %v, want %v", l, got, want)
		}
		if len(l) == 5 {
			return
		}
		for _, i := range letters {
			each(append(slices.Clone(l), i))
		}
	}
	each(nil)
}

// padded has code with what does nothing put in, at places by chance.
func padded(r *rand.Rand, l []asm.Ins) []asm.Ins {
	var made []asm.Ins
	next := 5000000
	for _, i := range append(slices.Clone(l), asm.Ins{}) {
		for r.Intn(3) == 0 {
			next++
			switch r.Intn(4) {
			case 0:
				made = append(made, codes.MovR(next%4, next%4))
			case 1:
				made = append(made, label(next))
			case 2:
				made = append(made, jmp(next), label(next))
			case 3:
				made = append(made, jmp(next), same, jmp(next+1), label(next+1), label(next))
				next++
			}
		}
		if i.Op != 0 {
			made = append(made, i)
		}
	}
	return made
}

// TestPeepByChance asks of programs made by chance that they do the same, peeped, in as many steps or fewer, and that what does nothing is left out, wherever it stands.
func TestPeepByChance(t *testing.T) {
	t.Parallel()
	ends := map[int]int{}
	fewer := 0
	for seed := range int64(3000) {
		r := rand.New(rand.NewSource(seed))
		p := listings.Wild(r.Intn)
		if seed%3 == 0 {
			p = listings.New(r.Intn, int(seed%2)*30).Deep(int(seed%4) * 12).Program()
		}
		full, short := p, p
		full.Funcs, short.Funcs = nil, nil
		for _, f := range p.Funcs {
			more := padded(r, f.Code)
			less := peeped(t, more)
			if want := oneByOne(r.Intn, more); !slices.Equal(less, want) || !slices.Equal(less, peeped(t, f.Code)) || !slices.Equal(less, peeped(t, less)) {
				t.Fatalf("P21.2: Peep of %v: %v, want %v", more, less, want)
			}
			full.Funcs, short.Funcs = append(full.Funcs, asm.Func{Code: more}), append(short.Funcs, asm.Func{Code: less})
		}
		if !asm.Good(full) || !asm.Good(short) {
			ends[0]++
			continue
		}
		args, world := somes(r, p.Params), somes(r, 3)
		a, _ := asm.Run(full, args, world, 20000, 5000)
		b, _ := asm.Run(short, args, world, 20000, 5000)
		ends[a.Kind]++
		isSame := trace.Same(a, b) && trace.Leaks(a, b) && b.Steps <= a.Steps
		if a.Kind == api.Fuel {
			isSame = trace.Prefix(a.Events, b.Events) && slices.Equal(a.Leaks, b.Leaks[:min(len(a.Leaks), len(b.Leaks))])
		}
		if !isSame {
			t.Fatalf("P21.2: %s, and before %s: %s", told(b), told(a), asm.Text(full))
		}
		if b.Steps < a.Steps {
			fewer++
		}
	}
	t.Logf("ends %v, %d in fewer steps", ends, fewer)
	if ends[api.Halt] < 200 || ends[api.Stuck] < 500 || ends[api.Fuel] < 20 || ends[api.Overflow] < 20 || ends[0] > 300 || fewer < 1000 {
		t.Errorf("P21.2: ends %v, %d in fewer steps", ends, fewer)
	}
}

// TestPeepBroken has functions that are not well formed.
func TestPeepBroken(t *testing.T) {
	for seed := range int64(3000) {
		r := rand.New(rand.NewSource(seed))
		for _, f := range listings.Broken(r.Intn).Funcs {
			if got, want := peeped(t, f.Code), oneByOne(r.Intn, f.Code); !slices.Equal(got, want) {
				t.Fatalf("P21.2: Peep of %v: %v, want %v", f.Code, got, want)
			}
		}
	}
}

// TestPeepGreat has long functions, in which one thing after the other can be left out.
func TestPeepGreat(t *testing.T) {
	const many = 200000
	var chain, nested, labels, stay []asm.Ins
	for n := range many {
		chain = append(chain, jmp(n%1000), label(n%1000))
		labels = append(labels, label(n))
		stay = append(stay, jmp(many-n), other)
	}
	for n := range many {
		nested = append(nested, jmp(many-n))
	}
	for n := range many {
		nested = append(nested, label(n+1))
	}
	begin := time.Now()
	for what, c := range map[string]struct {
		code []asm.Ins
		left int
	}{"a chain": {append(chain, ret), 1}, "jumps over jumps": {append(nested, ret), 1}, "labels": {append(labels, ret), 1}, "jumps that stay": {append(stay, ret), 2*many + 1}} {
		if got := gen.Peep(asm.Func{Code: c.code}).Code; len(got) != c.left || got[len(got)-1] != ret {
			t.Errorf("P21.2: Peep of %s leaves %d", what, len(got))
		}
	}
	if took := time.Since(begin); took > 30*time.Second {
		t.Errorf("R1: Peep of long functions takes %v", took)
	}
	if name := fmt.Sprint("\xff", many); gen.Peep(asm.Func{Name: name}).Name != name {
		t.Errorf("P21.2: Peep changes a name")
	}
}
