package rtl

import (
	"fmt"
	"iter"
	"slices"
	"strings"
	"testing"
)

// gives asks that an iterator gives these, each time, and again when it was left at any of them.
func gives(t *testing.T, what string, each iter.Seq[int], want []int) {
	t.Helper()
	for range 2 {
		if got := slices.Collect(each); !slices.Equal(got, want) {
			t.Errorf("P12.1: %s: %v, want %v", what, got, want)
		}
	}
	for last := range want {
		var got []int
		for n := range each {
			got = append(got, n)
			if len(got) == last+1 {
				break
			}
		}
		if !slices.Equal(got, want[:last+1]) {
			t.Errorf("P12.1: %s, left at number %d: %v, want %v", what, last, got, want)
		}
		if got := slices.Collect(each); !slices.Equal(got, want) {
			t.Errorf("P12.1: %s, gone through again: %v, want %v", what, got, want)
		}
	}
	// Two that go through it at once do not meet.
	for n, outer := range slices.Collect(each) {
		if inner := slices.Collect(each); outer != inner[n] {
			t.Errorf("P12.1: %s, gone through twice at once: %d and %v", what, outer, inner)
		}
	}
}

// TestEach has the successors and uses of each Op, by what the table names.
func TestEach(t *testing.T) {
	nodes := map[int]string{Cond: "S T", Return: ""}
	for op := -1; op <= 16; op++ {
		for _, n := range []Instr{
			{A: 3, B: 4, D: 5, Args: []int{6, 7, 6}, S: 8, T: 9, K: 10, Sub: 11},
			{A: -1, B: -1, D: -1, Args: []int{-1, 7, -1}, S: -1, T: -1},
			{A: 3, B: -1, D: -1, Args: []int{-1}, S: 1, T: 1},
			{A: -1, B: 4, Args: nil, S: 1},
			{A: -2, B: lowest, Args: []int{highest, -2}, S: highest, T: lowest},
			{},
		} {
			n.Op = op
			succs, named := nodes[op]
			if !named {
				succs = "S"
			}
			what := fmt.Sprintf("%+v", n)
			gives(t, "Succs of "+what, Succs(n), expected(n, succs))
			gives(t, "Uses of "+what, Uses(n), expected(n, readBy(op)))
		}
	}
}

// readBy tells the fields that the table has an Op read.
func readBy(op int) string {
	if op == Call {
		return "Args"
	}
	var l []string
	for _, what := range strings.Fields(asked[op]) {
		if what == "A" || what == "a" || what == "B" || what == "b" {
			l = append(l, strings.ToUpper(what))
		}
	}
	return strings.Join(l, " ")
}

// expected are what such fields hold, -1 left out of registers.
func expected(i Instr, fields string) []int {
	var l []int
	for _, field := range strings.Fields(fields) {
		switch field {
		case "S":
			l = append(l, i.S)
		case "T":
			l = append(l, i.T)
		case "A":
			l = append(l, present(i.A)...)
		case "B":
			l = append(l, present(i.B)...)
		case "Args":
			l = append(l, present(i.Args...)...)
		}
	}
	return l
}

func present(l ...int) []int {
	return slices.DeleteFunc(slices.Clone(l), func(r int) bool { return r == -1 })
}

// TestEachByHand has some written out.
func TestEachByHand(t *testing.T) {
	for _, c := range []struct {
		i           Instr
		succs, uses []int
	}{
		{Instr{Op: Nop, A: 1, B: 2, Args: []int{3}, S: 4, T: 5}, []int{4}, nil},
		{Instr{Op: Const, A: 1, B: 2, S: 4}, []int{4}, nil},
		{Instr{Op: Copy, A: 1, B: 2, S: 4}, []int{4}, []int{1}},
		{Instr{Op: Un, A: 1, B: 2, S: 4}, []int{4}, []int{1}},
		{Instr{Op: Bin, A: 1, B: 2, S: 4}, []int{4}, []int{1, 2}},
		{Instr{Op: Bin, A: 1, B: -1, S: 4}, []int{4}, []int{1}},
		{Instr{Op: Load, A: 1, B: 2, S: 4}, []int{4}, []int{1}},
		{Instr{Op: Store, A: 2, B: 1, D: 7, S: 4}, []int{4}, []int{2, 1}},
		{Instr{Op: Global, A: 1, B: 2, S: 4}, []int{4}, nil},
		{Instr{Op: Frame, A: 1, B: 2, S: 4}, []int{4}, nil},
		{Instr{Op: Call, A: 1, B: 2, D: 3, Args: []int{5, 0, 5}, S: 4, T: 6}, []int{4}, []int{5, 0, 5}},
		{Instr{Op: Cond, A: 1, B: 1, S: 4, T: 3}, []int{4, 3}, []int{1, 1}},
		{Instr{Op: Cond, A: 1, B: -1, S: 4, T: 4}, []int{4, 4}, []int{1}},
		{Instr{Op: Return, A: 1, B: 2, S: 4, T: 5}, nil, []int{1}},
		{Instr{Op: Return, A: -1}, nil, nil},
		{Instr{Op: In, A: 1, B: 2, S: 4}, []int{4}, nil},
		{Instr{Op: Out, A: 1, B: 2, Args: []int{3}, S: 4}, []int{4}, []int{1}},
	} {
		gives(t, fmt.Sprintf("Succs of %+v", c.i), Succs(c.i), c.succs)
		gives(t, fmt.Sprintf("Uses of %+v", c.i), Uses(c.i), c.uses)
	}
}

// TestEachKeepsNothing: what is done to a list behind the call makes no difference.
func TestEachKeepsNothing(t *testing.T) {
	args := []int{1, 2, 3, 99}[:3]
	i := Instr{Op: Call, Args: args, S: 4}
	uses, succs := Uses(i), Succs(i)
	args[1], i.S, i.Op = 7, 8, Return
	gives(t, "Uses", uses, []int{1, 2, 3})
	gives(t, "Succs", succs, []int{4})
	if args = args[:4]; args[3] != 99 {
		t.Errorf("R4: Uses changed what stands behind the list")
	}
}

// TestTarget has the register that each Op writes: the table's D, unless it is -1.
func TestTarget(t *testing.T) {
	for op := -1; op <= 16; op++ {
		named := strings.Fields(asked[op])
		writes := slices.Contains(named, "D") || slices.Contains(named, "d")
		for _, d := range []int{lowest, -1, 0, 5, highest} {
			got, ok := Target(Instr{Op: op, A: 1, B: 2, D: d, Args: []int{3}})
			if want := writes && d != -1; ok != want || want && got != d || !want && got != 0 {
				t.Errorf("P12.1: Target of Op %d with D %d: %d, %t", op, d, got, ok)
			}
		}
	}
}

// TestClone: it is the same, and each list has new memory, the room behind it too.
func TestClone(t *testing.T) {
	shared := []int{1, 2, 77}
	f := Func{Name: "f", Params: shared[:1], Regs: 3, Frame: 8, Entry: 1, Code: []Instr{{Op: Call, Args: shared[:2], S: 1}, {Op: Call, Args: shared[:2], T: 9}, {Op: 99, K: -5}}[:2]}
	before := fmt.Sprintf("%+v", f)
	for _, c := range []Func{Clone(f), Clone(Clone(f))} {
		if got := fmt.Sprintf("%+v", c); got != before {
			t.Errorf("Clone of %s: %s", before, got)
		}
		for _, l := range [][]int{c.Params, c.Code[0].Args, c.Code[1].Args} {
			l[0] += 10
			_ = append(l, 5)
		}
		if got := fmt.Sprint(c.Params, c.Code[0].Args, c.Code[1].Args); got != "[11] [11 2] [11 2]" {
			t.Errorf("R4: lists of a clone share memory: %s", got)
		}
		clear(c.Code[:cap(c.Code)])
		if got := fmt.Sprintf("%+v", f); got != before || shared[2] != 77 || f.Code[:3][2].K != -5 {
			t.Errorf("R4: what is done to a clone changes what it is of: %s, it was %s", got, before)
		}
	}
	if c := Clone(Func{}); len(c.Params) != 0 || len(c.Code) != 0 {
		t.Errorf("Clone of nothing: %+v", c)
	}
}
