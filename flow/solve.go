package flow

import (
	"cmp"
	"slices"

	"plumbob/walk"
)

// What Solve takes.
const (
	maxNumbers = 2000
	greatest   = 1000000
)

// within tells whether a number is from 0 to the most.
func within(n, most int) bool { return n >= 0 && n <= most }

func allWithin(l []int, most int) bool {
	for _, n := range l {
		if !within(n, most) {
			return false
		}
	}
	return true
}

// solved takes the greatest numbers first, each as far as edges lead: what is met has its number then, since none that comes later is greater.
func solved(edges [][2]int, start []int) []int {
	next := make([][]int, len(start))
	for _, e := range edges {
		next[e[0]] = append(next[e[0]], e[1])
	}
	falling := make([]int, len(start))
	for i := range falling {
		falling[i] = i
	}
	slices.SortFunc(falling, func(a, b int) int { return cmp.Compare(start[b], start[a]) })
	l := make([]int, len(start))
	along := walk.New(next)
	for _, first := range falling {
		for i := range along.From(first) {
			l[i] = start[first]
		}
	}
	return l
}
