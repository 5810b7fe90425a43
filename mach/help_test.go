package mach_test

import (
	"fmt"
	"math/rand"
	"strings"
	"testing"

	"plumbob/api"
	"plumbob/bricks"
	"plumbob/linear"
	"plumbob/mach"
	"plumbob/rtl"
)

const (
	lowest  = -1 << 63
	highest = 1<<63 - 1
)

var (
	order = bricks.Order(6)
	kept  = bricks.Kept()
	edges = bricks.Edges()

	nameable = bricks.Nameable
	nothing  = bricks.Nothing
	constant = bricks.Constant
	move     = bricks.Move
	input    = bricks.Input
	output   = bricks.Output
	leave    = bricks.Leave
	call     = bricks.Call
	fixed    = bricks.Fixed
	both     = bricks.Both
	test     = bricks.Test
	load     = bricks.Load
	store    = bricks.Store
	global   = bricks.Global
	home     = bricks.Home
	to       = bricks.To
	row      = bricks.Row
	function = bricks.Function
	named    = bricks.Named
	entered  = bricks.Entered
	framed   = bricks.Framed
	program  = bricks.Program
	told     = bricks.Told
	in       = bricks.In
)

func l(numbers ...int64) []int64 { return numbers }

// somes are numbers by chance.
func somes(r *rand.Rand, count int) []int64 { return bricks.Some(r.Intn, count) }

// shuffled has numbers in another order, by chance.
func shuffled(r *rand.Rand, l []int) []int { return bricks.Shuffled(r.Intn, l) }

// dump tells all of a value; lists that are nil and empty ones alike.
func dump(a any) string { return fmt.Sprintf("%+v", a) }

// flat is a program in rows.
func flat(t *testing.T, p rtl.Prog) *linear.Prog {
	t.Helper()
	rows, e := linear.Flatten(p)
	if e != api.OK {
		t.Fatalf("P18.1: Flatten of %.3000s: %d", rtl.Text(p), e)
	}
	return rows
}

// framedOf is what Stack answers. It asks that it is the same once more, and that nothing is changed.
func framedOf(t *testing.T, rows *linear.Prog) *mach.Prog {
	t.Helper()
	before := dump(rows)
	made, e := mach.Stack(rows)
	if e != api.OK || made == nil {
		t.Fatalf("P19.1: Stack of %.3000s: %d", rows.Text(), e)
	}
	if again, _ := mach.Stack(rows); again.Text() != made.Text() {
		t.Fatalf("R5: Stack of %.3000s: %.3000s, and once more %.3000s", rows.Text(), made.Text(), again.Text())
	}
	if dump(rows) != before {
		t.Fatalf("R4: Stack of %.3000s: it is changed: %.3000s", before, dump(rows))
	}
	return made
}

// stacked is a program over locations with frames.
func stacked(t *testing.T, p rtl.Prog) *mach.Prog {
	t.Helper()
	return framedOf(t, flat(t, p))
}

// body tells what the first function of a program is made of.
func body(p *mach.Prog) string {
	_, text, _ := strings.Cut(p.Text(), "function 0")
	text, _, _ = strings.Cut(text, "\nfunction 1")
	_, text, _ = strings.Cut(text, "\n\t")
	return strings.TrimSuffix(strings.ReplaceAll(text, "\n\t", "; "), "\n")
}

// own are a run's leaks but for those of words: accesses of a frame behind its block. Each call has a block, behind those of the globals.
func own(p rtl.Prog, leaks []api.Leak) []api.Leak {
	sizes := append(append([]int{}, p.Globals...), p.Funcs[p.Main].Frame)
	var l []api.Leak
	for _, k := range leaks {
		if k.Kind == api.Call {
			sizes = append(sizes, p.Funcs[k.A].Frame)
		}
		isWord := k.Kind == api.Addr && int(k.A) > len(p.Globals) && int(k.B) >= sizes[k.A-1]
		if !isWord {
			l = append(l, k)
		}
	}
	return l
}
