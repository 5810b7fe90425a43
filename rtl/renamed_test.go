package rtl

import (
	"fmt"
	"testing"
)

// TestRenamed has each Op with numbers in all its fields, over registers a hundred on: what the table does not name is 0, and none stays none.
func TestRenamed(t *testing.T) {
	for _, b := range []int{2, -1} {
		full := Instr{Sub: 9, A: 1, B: b, D: 3, K: 4, Args: []int{5, 6, 5}, S: 7, T: 8}
		second, k := b, int64(4)
		if b != -1 {
			second, k = b+100, 0
		}
		want := map[int]Instr{
			Nop: {S: 7}, Const: {D: 103, K: 4, S: 7}, Copy: {A: 101, D: 103, S: 7}, Un: {Sub: 9, A: 101, D: 103, S: 7},
			Bin: {Sub: 9, A: 101, B: second, D: 103, K: k, S: 7}, Load: {Sub: 9, A: 101, D: 103, K: 4, S: 7}, Store: {Sub: 9, A: 101, B: 102, K: 4, S: 7},
			Global: {Sub: 9, D: 103, K: 4, S: 7}, Frame: {D: 103, K: 4, S: 7}, Call: {Sub: 9, D: 103, Args: []int{105, 106, 105}, S: 7},
			Cond: {Sub: 9, A: 101, B: second, K: k, S: 7, T: 8}, Return: {A: 101}, In: {D: 103, S: 7}, Out: {A: 101, S: 7},
		}
		for op := Nop; op <= Out; op++ {
			i, expected := full, want[op]
			i.Op, expected.Op = op, op
			if op == Store {
				i.B = 2
			}
			before := fmt.Sprint(i)
			got := Renamed(i, func(r int) int { return r + 100 })
			if fmt.Sprint(got) != fmt.Sprint(expected) || fmt.Sprint(i) != before {
				t.Errorf("P12.1: %+v renamed: %+v, want %+v", i, got, expected)
			}
			if len(got.Args) > 0 {
				got.Args[0] = -7
			}
			if fmt.Sprint(i) != before {
				t.Errorf("R4: %+v renamed keeps its list: %+v", before, i)
			}
		}
	}
	for _, i := range []Instr{{Op: Call, Args: nil, D: -1}, {Op: Return, A: -1}} {
		if got := Renamed(i, func(r int) int { return r + 100 }); fmt.Sprint(got) != fmt.Sprint(i) {
			t.Errorf("P12.1: %+v renamed: %+v", i, got)
		}
	}
}
