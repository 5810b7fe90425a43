package flow

import (
	"iter"
	"slices"

	"plumbob/rtl"
)

// search goes through a graph.
type search struct {
	next [][]int // by node: those at which it goes on
	met  []bool  // by node: was it met, or is it closed
}

func newSearch(next [][]int) *search { return &search{next, make([]bool, len(next))} }

// from gives the nodes to which a way leads from some, those too, that does not go through ones already met; it meets them.
func (s *search) from(starts ...int) iter.Seq[int] {
	return func(yield func(int) bool) {
		var waiting []int
	search:
		for _, start := range starts {
			if s.met[start] {
				continue search
			}
			s.met[start] = true
			waiting = append(waiting, start)
			for len(waiting) > 0 {
				n := waiting[len(waiting)-1]
				waiting = waiting[:len(waiting)-1]
				if !yield(n) {
					break search
				}
				for _, to := range s.next[n] {
					if !s.met[to] {
						s.met[to] = true
						waiting = append(waiting, to)
					}
				}
			}
		}
	}
}

// forward tells of each node those at which it may go on.
func forward(code []rtl.Instr) [][]int {
	l := make([][]int, len(code))
	for n, i := range code {
		l[n] = slices.Collect(rtl.Succs(i))
	}
	return l
}

// backward tells of each node those that may go on there.
func backward(code []rtl.Instr) [][]int {
	l := make([][]int, len(code))
	for n, i := range code {
		for to := range rtl.Succs(i) {
			l[to] = append(l[to], n)
		}
	}
	return l
}

// order tells the nodes that can be reached, in reverse postorder.
func order(f rtl.Func) []int {
	met := make([]bool, len(f.Code))
	met[f.Entry] = true
	way := []int{f.Entry}
	var left []int
search:
	for len(way) > 0 {
		n := way[len(way)-1]
		for to := range rtl.Succs(f.Code[n]) {
			if !met[to] {
				met[to] = true
				way = append(way, to)
				continue search
			}
		}
		way = way[:len(way)-1]
		left = append(left, n)
	}
	slices.Reverse(left)
	return left
}
