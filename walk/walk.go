// Package walk goes through graphs: it tells which nodes ways lead to, and what stands around the nodes of a function.
package walk

import "iter"

// Search goes through a graph.
type Search struct {
	next [][]int // by node: those at which it goes on
	met  []bool  // by node: was it met, or is it closed
}

// New begins; next has, by node, those at which it goes on.
func New(next [][]int) *Search { return &Search{next, make([]bool, len(next))} }

// Reset makes all nodes open, and none met.
func (s *Search) Reset() { clear(s.met) }

// Close keeps ways from going through some nodes.
func (s *Search) Close(nodes ...int) {
	for _, n := range nodes {
		s.met[n] = true
	}
}

// Open lets them go through some again.
func (s *Search) Open(nodes ...int) {
	for _, n := range nodes {
		s.met[n] = false
	}
}

// From gives the nodes to which a way leads from some, those too, that does not go through ones already met, or closed; it meets them.
func (s *Search) From(starts ...int) iter.Seq[int] {
	return func(yield func(int) bool) {
		var waiting []int
	search:
		for _, start := range starts {
			if s.met[start] {
				continue search
			}
			s.met[start] = true
			waiting = append(waiting, start)
			for len(waiting) > 0 {
				n := waiting[len(waiting)-1]
				waiting = waiting[:len(waiting)-1]
				if !yield(n) {
					break search
				}
				for _, to := range s.next[n] {
					if !s.met[to] {
						s.met[to] = true
						waiting = append(waiting, to)
					}
				}
			}
		}
	}
}
