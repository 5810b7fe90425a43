package gen_test

import (
	"fmt"
	"math/rand"
	"slices"
	"strings"
	"testing"

	"plumbob/api"
	"plumbob/asm"
	"plumbob/bricks"
	"plumbob/gen"
	"plumbob/linear"
	"plumbob/mach"
	"plumbob/rtl"
)

const (
	lowest  = -1 << 63
	highest = 1<<63 - 1
	all     = 1<<31 - 1 // a limit that is none
)

var (
	order = bricks.Order(6)
	kept  = bricks.Kept()
	edges = bricks.Edges()

	nameable = bricks.Nameable
	nothing  = bricks.Nothing
	constant = bricks.Constant
	move     = bricks.Move
	input    = bricks.Input
	output   = bricks.Output
	leave    = bricks.Leave
	call     = bricks.Call
	fixed    = bricks.Fixed
	both     = bricks.Both
	test     = bricks.Test
	load     = bricks.Load
	store    = bricks.Store
	global   = bricks.Global
	home     = bricks.Home
	to       = bricks.To
	row      = bricks.Row
	function = bricks.Function
	named    = bricks.Named
	entered  = bricks.Entered
	framed   = bricks.Framed
	program  = bricks.Program
	told     = bricks.Told
	in       = bricks.In
)

func l(numbers ...int64) []int64 { return numbers }

// un is an operation on one location.
func un(sub, a, d int) rtl.Instr { return rtl.Instr{Op: rtl.Un, Sub: sub, A: a, D: d} }

// somes are numbers by chance.
func somes(r *rand.Rand, count int) []int64 { return bricks.Some(r.Intn, count) }

// shuffled has numbers in another order, by chance.
func shuffled(r *rand.Rand, l []int) []int { return bricks.Shuffled(r.Intn, l) }

// dump tells all of a value.
func dump(a any) string { return fmt.Sprintf("%+v", a) }

// stacked is a program over locations with frames.
func stacked(t *testing.T, p rtl.Prog) *mach.Prog {
	t.Helper()
	rows, e := linear.Flatten(p)
	if e != api.OK {
		t.Fatalf("P18.1: Flatten of %.3000s: %d", rtl.Text(p), e)
	}
	made, e := mach.Stack(rows)
	if e != api.OK {
		t.Fatalf("P19.1: Stack of %.3000s: %d", rows.Text(), e)
	}
	return made
}

// emitted is what Emit answers. It asks that it is well formed, with the frames that there are; that it is the same once more, and that nothing is changed.
func emitted(t *testing.T, p *mach.Prog) asm.Prog {
	t.Helper()
	before := dump(p)
	made, e := gen.Emit(p)
	if e != api.OK || !asm.Good(made) {
		t.Fatalf("P21.1: Emit of %.3000s: %d: %.3000s", p.Text(), e, asm.Text(made))
	}
	if again, _ := gen.Emit(p); asm.Text(again) != asm.Text(made) {
		t.Fatalf("R5: Emit of %.3000s: %.3000s, and once more %.3000s", p.Text(), asm.Text(made), asm.Text(again))
	}
	if dump(p) != before {
		t.Fatalf("R4: Emit of %.3000s: it is changed: %.3000s", before, dump(p))
	}
	hasParts(t, p, made)
	return made
}

// hasParts asks that globals, functions and main are those that there were, and that each function enters and leaves its frame.
func hasParts(t *testing.T, p *mach.Prog, made asm.Prog) {
	t.Helper()
	parts := p.Parts()
	if fmt.Sprint(made.Globals) != fmt.Sprint(parts.Globals) || made.Main != parts.Main || len(made.Funcs) != len(parts.Functions) || made.Params != parts.Functions[parts.Main].Params {
		t.Fatalf("P21.1: %.3000sis made %.3000s", p.Text(), asm.Text(made))
	}
	for n, f := range made.Funcs {
		from, enters, leaves, returns := parts.Functions[n], 0, 0, 0
		for at, i := range f.Code {
			isRight := true
			switch i.Op {
			case asm.Enter:
				enters++
				isRight = at == 0 && int(i.K) == from.Frame
			case asm.Leave:
				leaves++
				isRight = int(i.K) == from.Frame && f.Code[at+1].Op == asm.Ret
			case asm.Ret:
				returns++
			}
			if !isRight {
				t.Fatalf("P21.1: instruction %d of function %d: %.3000s", at, n, asm.Text(made))
			}
		}
		isFramed := enters == 1 && leaves == returns
		if f.Name != from.Name || from.Frame > 0 && !isFramed || from.Frame == 0 && enters+leaves > 0 {
			t.Fatalf("P21.1: function %d, of %d bytes: %.3000s", n, from.Frame, asm.Text(made))
		}
	}
}

// body tells the code of the first function of a program.
func body(p asm.Prog) string {
	text := asm.Text(asm.Prog{Funcs: p.Funcs[:1]})
	_, text, _ = strings.Cut(text, "\n\t")
	return strings.TrimSuffix(strings.ReplaceAll(text, "\n\t", "; "), "\n")
}

// atFrames are leaks of code with the blocks' numbers that they have with frames: there each call has a block, and here those alone whose frame has bytes.
func atFrames(p *mach.Prog, leaks []api.Leak) []api.Leak {
	parts := p.Parts()
	var l []api.Leak
	numbers := []int{0} // by block
	for n := range parts.Globals {
		numbers = append(numbers, n+1)
	}
	next := len(numbers)
	begin := func(function int) {
		if parts.Functions[function].Frame > 0 {
			numbers = append(numbers, next)
		}
		next++
	}
	begin(parts.Main)
	for _, k := range leaks {
		switch k.Kind {
		case api.Addr:
			k.A = int64(numbers[k.A])
		case api.Call:
			begin(int(k.A))
		}
		l = append(l, k)
	}
	return l
}

// own are a run's leaks with frames but for those of words: accesses of a frame behind its block.
func own(p *mach.Prog, leaks []api.Leak) []api.Leak {
	parts := p.Parts()
	blocks := append(append([]int{}, parts.Globals...), parts.Functions[parts.Main].Block)
	var l []api.Leak
	for _, k := range leaks {
		if k.Kind == api.Call {
			blocks = append(blocks, parts.Functions[k.A].Block)
		}
		isWord := k.Kind == api.Addr && int(k.A) > len(parts.Globals) && int(k.B) >= blocks[k.A-1]
		if !isWord {
			l = append(l, k)
		}
	}
	return l
}

// withoutSides are leaks of which a branch does not say which side it took: code asks the opposite of what is asked with frames, where that goes on elsewhere.
func withoutSides(leaks []api.Leak) []api.Leak {
	leaks = slices.Clone(leaks)
	for n := range leaks {
		if leaks[n].Kind == api.Branch {
			leaks[n].A = 0
		}
	}
	return leaks
}
