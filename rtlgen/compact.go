package rtlgen

import (
	"slices"

	"plumbob/rtl"
)

// What stands for a node's number while there is none.
const (
	unknown = -1
	passed  = -2 // it is on the way that is gone at the moment
)

// compactor numbers a function's nodes anew.
type compactor struct {
	code    []rtl.Instr
	ends    []int // by node: where one that goes on there comes to
	numbers []int // by node: its new number, or unknown
	order   []int // the nodes that stay, by their new numbers
}

// compacted is a function without what Compact leaves out. It may have more nodes than are allowed: only those that stay need fit.
func compacted(f rtl.Func) rtl.Func {
	c := &compactor{code: f.Code, ends: ends(f.Code), numbers: unknowns(len(f.Code))}
	c.meet(c.ends[f.Entry])
	f.Params = slices.Clone(f.Params)
	f.Entry, f.Code = 0, nil
	for _, n := range c.order {
		f.Code = append(f.Code, c.renumbered(c.code[n]))
	}
	return f
}

func unknowns(count int) []int { return slices.Repeat([]int{unknown}, count) }

// ends tells of each node where one that goes on there comes to, all Nops passed over: to an instruction, or to the least Nop of a ring.
func ends(code []rtl.Instr) []int {
	l := unknowns(len(code))
	for n, i := range code {
		if i.Op != rtl.Nop {
			l[n] = n
		}
	}
	for first := range code {
		var way []int
		at := first
		for ; l[at] == unknown; at = code[at].S {
			l[at] = passed
			way = append(way, at)
		}
		end := l[at]
		if end == passed { // the way has come round to itself
			end = slices.Min(way[slices.Index(way, at):])
		}
		for _, n := range way {
			l[n] = end
		}
	}
	return l
}

// meet numbers what is reached from a node on in the order in which it is met. What waits is kept in a list, since a graph may be deeper than calls should be.
func (c *compactor) meet(entry int) {
	waiting := []int{entry}
	for len(waiting) > 0 {
		last := len(waiting) - 1
		n := waiting[last]
		waiting = waiting[:last]
		if c.numbers[n] != unknown {
			continue
		}
		c.numbers[n] = len(c.order)
		c.order = append(c.order, n)
		for _, s := range slices.Backward(slices.Collect(rtl.Succs(c.code[n]))) {
			waiting = append(waiting, c.ends[s])
		}
	}
}

// renumbered is an instruction that goes on by the new numbers.
func (c *compactor) renumbered(i rtl.Instr) rtl.Instr {
	var l [2]int
	count := 0
	for s := range rtl.Succs(i) {
		l[count] = c.numbers[c.ends[s]]
		count++
	}
	i.Args, i.S, i.T = slices.Clone(i.Args), l[0], l[1]
	return i
}
