package flow

import (
	"slices"

	"plumbob/rtl"
	"plumbob/walk"
)

// dominators goes through the graph once for each node, with that one closed: it dominates what is reached no more. It takes them rising, so that each node has them rising.
func dominators(f rtl.Func) [][]int {
	nodes := slices.Sorted(slices.Values(order(f)))
	around := walk.New(walk.Forward(f.Code))
	without := slices.Repeat([]int{none}, len(f.Code)) // by node: the last one without which it was reached
	l := make([][]int, len(f.Code))
	for _, d := range nodes {
		around.Reset()
		around.Close(d)
		for n := range around.From(f.Entry) {
			without[n] = d
		}
		for _, n := range nodes {
			if without[n] != d {
				l[n] = append(l[n], d)
			}
		}
	}
	return l
}
