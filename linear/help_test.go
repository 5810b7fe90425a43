package linear_test

import (
	"fmt"
	"math/rand"
	"testing"

	"plumbob/api"
	"plumbob/bricks"
	"plumbob/linear"
	"plumbob/rtl"
)

const (
	lowest  = -1 << 63
	highest = 1<<63 - 1
)

var (
	order    = bricks.Order(6)
	kept     = bricks.Kept()
	reserved = bricks.Reserved()
	edges    = bricks.Edges()

	nameable = bricks.Nameable
	nothing  = bricks.Nothing
	constant = bricks.Constant
	move     = bricks.Move
	input    = bricks.Input
	output   = bricks.Output
	leave    = bricks.Leave
	call     = bricks.Call
	fixed    = bricks.Fixed
	test     = bricks.Test
	to       = bricks.To
	row      = bricks.Row
	function = bricks.Function
	entered  = bricks.Entered
	framed   = bricks.Framed
	program  = bricks.Program
	told     = bricks.Told
	in       = bricks.In
)

func l(numbers ...int64) []int64 { return numbers }

// flat is what Flatten answers. It asks that it is the same once more, and that nothing is changed.
func flat(t *testing.T, p rtl.Prog) *linear.Prog {
	t.Helper()
	before := dump(p)
	made, e := linear.Flatten(p)
	if e != api.OK || made == nil {
		t.Fatalf("P18.1: Flatten of %.3000s: %d", rtl.Text(p), e)
	}
	if again, _ := linear.Flatten(p); again.Text() != made.Text() {
		t.Fatalf("R5: Flatten of %.3000s: %.3000s, and once more %.3000s", rtl.Text(p), made.Text(), again.Text())
	}
	if dump(p) != before {
		t.Fatalf("R4: Flatten of %.3000s: it is changed: %.3000s", before, dump(p))
	}
	return made
}

// dump tells all of a value; lists that are nil and empty ones alike.
func dump(a any) string { return fmt.Sprintf("%+v", a) }

// somes are numbers by chance.
func somes(r *rand.Rand, count int) []int64 { return bricks.Some(r.Intn, count) }

// shuffled has numbers in another order, by chance.
func shuffled(r *rand.Rand, l []int) []int { return bricks.Shuffled(r.Intn, l) }
