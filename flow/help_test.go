package flow

import (
	"fmt"
	"strings"
	"testing"

	"plumbob/api"
	"plumbob/rtl"
)

const (
	lowest  = -1 << 63
	highest = 1<<63 - 1
)

func nop(s int) rtl.Instr { return rtl.Instr{Op: rtl.Nop, S: s} }
func constant(d int, k int64, s int) rtl.Instr {
	return rtl.Instr{Op: rtl.Const, D: d, K: k, S: s}
}
func move(a, d, s int) rtl.Instr           { return rtl.Instr{Op: rtl.Copy, A: a, D: d, S: s} }
func input(d, s int) rtl.Instr             { return rtl.Instr{Op: rtl.In, D: d, S: s} }
func output(a, s int) rtl.Instr            { return rtl.Instr{Op: rtl.Out, A: a, S: s} }
func leave(a int) rtl.Instr                { return rtl.Instr{Op: rtl.Return, A: a} }
func call(d, s int, args ...int) rtl.Instr { return rtl.Instr{Op: rtl.Call, Args: args, D: d, S: s} }

// un is an operation on one register.
func un(sub, a, d, s int) rtl.Instr { return rtl.Instr{Op: rtl.Un, Sub: sub, A: a, D: d, S: s} }

// bin is one on two registers.
func bin(sub, a, b, d, s int) rtl.Instr {
	return rtl.Instr{Op: rtl.Bin, Sub: sub, A: a, B: b, D: d, S: s}
}

// fixed is one on a register and a constant.
func fixed(sub, a int, k int64, d, s int) rtl.Instr {
	return rtl.Instr{Op: rtl.Bin, Sub: sub, A: a, B: -1, K: k, D: d, S: s}
}

// cond is a branch by two registers.
func cond(sub, a, b, s, t int) rtl.Instr {
	return rtl.Instr{Op: rtl.Cond, Sub: sub, A: a, B: b, S: s, T: t}
}

// test is one by a register and a constant.
func test(sub, a int, k int64, s, t int) rtl.Instr {
	return rtl.Instr{Op: rtl.Cond, Sub: sub, A: a, B: -1, K: k, S: s, T: t}
}

// function is one that begins at node 0.
func function(regs int, code ...rtl.Instr) rtl.Func {
	return rtl.Func{Name: "f", Regs: regs, Frame: 16, Code: code}
}

// entered is one that begins elsewhere.
func entered(f rtl.Func, entry int) rtl.Func {
	f.Entry = entry
	return f
}

// dump tells all of a function; lists that are nil and empty ones alike.
func dump(f rtl.Func) string { return fmt.Sprintf("%+v", f) }

// steady asks that what a call tells is the same once more, and that it changes nothing.
func steady(t *testing.T, f rtl.Func, tell func() string) string {
	t.Helper()
	before := dump(f)
	told := tell()
	if again := tell(); again != told {
		t.Errorf("R5: %s: %s, and once more %s", before, told, again)
	}
	if dump(f) != before {
		t.Errorf("R4: %s: it is changed: %s", before, dump(f))
	}
	return told
}

// tellLive tells the registers at each node.
func tellLive(t *testing.T, f rtl.Func) string {
	t.Helper()
	return steady(t, f, func() string {
		l, e := Live(f)
		return tellLists(t, f, l, e)
	})
}

// tellDominators tells the nodes that dominate each.
func tellDominators(t *testing.T, f rtl.Func) string {
	t.Helper()
	return steady(t, f, func() string {
		l, e := Dominators(f)
		return tellLists(t, f, l, e)
	})
}

// tellLists tells the numbers of each node, with | between.
func tellLists(t *testing.T, f rtl.Func, l [][]int, e api.Errno) string {
	t.Helper()
	if e != api.OK || len(l) != len(f.Code) {
		t.Errorf("P14.1: %s: %d lists (%d)", dump(f), len(l), e)
	}
	var words []string
	for _, numbers := range l {
		words = append(words, strings.Trim(fmt.Sprint(numbers), "[]"))
	}
	return strings.Join(words, "|")
}

// tellKnown tells what is known at each node: registers with their numbers, with | between, and "no" of one that is not reached.
func tellKnown(t *testing.T, f rtl.Func) string {
	t.Helper()
	return steady(t, f, func() string {
		facts, reached, e := Known(f)
		if e != api.OK || len(facts) != len(f.Code) || len(reached) != len(f.Code) {
			t.Errorf("P14.1: Known of %s: %d, %d lists (%d)", dump(f), len(facts), len(reached), e)
			return ""
		}
		return tellFacts(t, f, facts, reached)
	})
}

func tellFacts(t *testing.T, f rtl.Func, facts [][]Fact, reached []bool) string {
	t.Helper()
	var words []string
	for n, row := range facts {
		var l []string
		for r, fact := range row {
			if fact.Known {
				l = append(l, fmt.Sprintf("%d=%d", r, fact.V))
			} else if fact.V != 0 {
				t.Errorf("R2: Known of %s: register %d at %d: %v", dump(f), r, n, fact)
			}
		}
		if len(row) != f.Regs || !reached[n] && len(l) > 0 {
			t.Errorf("P14.1: Known of %s: at %d %v, reached: %t", dump(f), n, row, reached[n])
		}
		if !reached[n] {
			l = append(l, "no")
		}
		words = append(words, strings.Join(l, " "))
	}
	return strings.Join(words, "|")
}

// tellOrder tells the nodes' order; and asks that Each gives the same.
func tellOrder(t *testing.T, f rtl.Func) string {
	t.Helper()
	return steady(t, f, func() string {
		l, e := Order(f)
		if e != api.OK {
			t.Errorf("P14.1: Order of %s: %d", dump(f), e)
		}
		gives(t, f, l)
		return strings.Trim(fmt.Sprint(l), "[]")
	})
}

// gives asks that Each gives these nodes, with their instructions, each time, and again when it was left at any of the first ones.
func gives(t *testing.T, f rtl.Func, nodes []int) {
	t.Helper()
	each := Each(f)
	through := func(count int) {
		at := 0
		for n, i := range each {
			if at >= len(nodes) || n != nodes[at] || fmt.Sprintf("%+v", i) != fmt.Sprintf("%+v", f.Code[n]) {
				t.Fatalf("P14.1: Each of %s: number %d is %d, %+v; the order is %v", dump(f), at, n, i, nodes)
			}
			at++
			if at == count {
				break
			}
		}
		if at != count {
			t.Errorf("P14.1: Each of %s: %d nodes, want %d", dump(f), at, count)
		}
	}
	for last := range min(len(nodes), 3) {
		through(last + 1)
	}
	through(len(nodes))
	through(len(nodes))
}
