package flow

import (
	"slices"

	"plumbob/rtl"
)

// order tells the nodes that can be reached, in reverse postorder.
func order(f rtl.Func) []int {
	met := make([]bool, len(f.Code))
	met[f.Entry] = true
	way := []int{f.Entry}
	var left []int
search:
	for len(way) > 0 {
		n := way[len(way)-1]
		for to := range rtl.Succs(f.Code[n]) {
			if !met[to] {
				met[to] = true
				way = append(way, to)
				continue search
			}
		}
		way = way[:len(way)-1]
		left = append(left, n)
	}
	slices.Reverse(left)
	return left
}
