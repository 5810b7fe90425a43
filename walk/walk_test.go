package walk

import (
	"fmt"
	"slices"
	"testing"

	"plumbob/api"
	"plumbob/rtl"
)

func TestFrom(t *testing.T) {
	s := New([][]int{{1, 2}, {3}, {3, 2}, {0}, {4, 0}})
	for _, c := range []struct {
		closed, opened, starts, want []int
	}{
		{nil, nil, nil, nil},
		{nil, nil, []int{0}, []int{0, 1, 2, 3}},
		{nil, nil, []int{4, 0, 4}, []int{0, 1, 2, 3, 4}},
		{[]int{3}, nil, []int{1, 3}, []int{1}},
		{[]int{1, 2}, nil, []int{0}, []int{0}},
		{[]int{1, 2}, []int{1, 0}, []int{0}, []int{0, 1, 3}},
		{[]int{0}, nil, []int{0}, nil},
	} {
		s.Reset()
		s.Close(c.closed...)
		s.Open(c.opened...)
		if got := slices.Sorted(s.From(c.starts...)); !slices.Equal(got, c.want) {
			t.Errorf("from %v, with %v closed and %v opened: %v, want %v", c.starts, c.closed, c.opened, got, c.want)
		}
		if got := slices.Collect(s.From(c.starts...)); len(got) != 0 {
			t.Errorf("from %v once more: %v", c.starts, got)
		}
	}
}

// TestSearchIsLeft: where a search is left, nothing further is met, and it can be gone on with.
func TestSearchIsLeft(t *testing.T) {
	s := New([][]int{{1}, nil, {3}, {2}})
	for n := range s.From(0, 2, 1) {
		if n == 1 {
			break
		}
	}
	if !slices.Equal(s.met, []bool{true, true, false, false}) {
		t.Errorf("a search that was left has met %v", s.met)
	}
	if l := slices.Collect(s.From(0, 3, 2)); !slices.Equal(l, []int{3, 2}) {
		t.Errorf("a search that is gone on with meets %v", l)
	}
}

func TestCode(t *testing.T) {
	f := rtl.Func{Regs: 3, Code: []rtl.Instr{
		{Op: rtl.Cond, Sub: api.Eq, A: 1, B: 0, D: 2, S: 1, T: 2},
		{Op: rtl.Call, Args: []int{2, 0, 2}, D: -1, S: 0, T: 2},
		{Op: rtl.Bin, Sub: api.Add, A: 1, B: -1, D: 1, S: 3},
		{Op: rtl.Return, A: 1, D: 2, S: 1},
	}}
	readers, writers := Touches(f)
	for _, c := range []struct {
		what, want string
		got        [][]int
	}{
		{"Forward", "[[1 2] [0] [3] []]", Forward(f.Code)},
		{"Backward", "[[1] [0] [0] [2]]", Backward(f.Code)},
		{"Touches: readers", "[[0 1] [0 2 3] [1 1]]", readers},
		{"Touches: writers", "[[] [2] []]", writers},
	} {
		if fmt.Sprint(c.got) != c.want {
			t.Errorf("%s: %v, want %s", c.what, c.got, c.want)
		}
	}
}
