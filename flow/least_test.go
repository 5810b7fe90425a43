package flow

import (
	"fmt"
	"math/rand"
	"slices"
	"testing"

	"plumbob/graphs"
)

// rows gives all rows of so many numbers below a bound.
func rows(count, bound int, yield func(row []int)) {
	row := make([]int, count)
	for {
		yield(row)
		at := 0
		for ; at < count && row[at] == bound-1; at++ {
			row[at] = 0
		}
		if at == count {
			return
		}
		row[at]++
	}
}

// subsets makes each number a list of those of its bits that are set.
func subsets(row []int) [][]int {
	l := make([][]int, len(row))
	for n, bits := range row {
		for bit := 0; bits>>bit > 0; bit++ {
			if bits>>bit&1 == 1 {
				l[n] = append(l[n], bit)
			}
		}
	}
	return l
}

func isWithin(a, b [][]int) bool {
	for n := range a {
		if slices.ContainsFunc(a[n], func(x int) bool { return !slices.Contains(b[n], x) }) {
			return false
		}
	}
	return true
}

// TestLeastLive tries all that could be live in small graphs: each solution has all that the answer has.
func TestLeastLive(t *testing.T) {
	greater := 0
	for seed := range int64(800) {
		f := graphs.Reckoner(rand.New(rand.NewSource(seed)).Intn, 3, 2)
		live, _ := Live(f)
		rows(3, 4, func(row []int) {
			other := subsets(row)
			if fmt.Sprint(followsLive(f, other)) != fmt.Sprint(other) {
				return
			}
			if !isWithin(live, other) {
				t.Fatalf("P14.3: Live of %s: %v, but a solution is %v", dump(f), live, other)
			}
			if !isWithin(other, live) {
				greater++
			}
		})
	}
	if greater < 100 {
		t.Errorf("P14.3: only %d solutions are greater", greater)
	}
}

// TestLeastKnown tries all that could be known in small graphs, of the numbers 0 and 1: no solution knows more, or reaches less.
func TestLeastKnown(t *testing.T) {
	greater := 0
	for seed := range int64(600) {
		f := graphs.Reckoner(rand.New(rand.NewSource(seed)).Intn, 3, 2)
		k := answeredKnown(f)
		if !sameKnown(k, followsKnown(f, k)) {
			t.Fatalf("P14.3: Known of %s: %v, it follows %v", dump(f), k, followsKnown(f, k))
		}
		rows(3, 10, func(row []int) {
			other := make(knowledge, len(row))
			for n, x := range row {
				if x > 0 {
					other[n] = []Fact{factOf((x - 1) % 3), factOf((x - 1) / 3)}
				}
			}
			if !sameKnown(other, followsKnown(f, other)) {
				return
			}
			if !atMost(k, other) {
				t.Fatalf("P14.3: Known of %s: %v, but a solution is %v", dump(f), k, other)
			}
			if !sameKnown(k, other) {
				greater++
			}
		})
	}
	if greater < 20 {
		t.Errorf("P14.3: only %d solutions are greater", greater)
	}
}

// factOf is 0, 1, or not known.
func factOf(x int) Fact {
	if x == 2 {
		return Fact{}
	}
	return Fact{true, int64(x)}
}

// TestLeastDominators tries all that could dominate in small graphs: no solution has more.
func TestLeastDominators(t *testing.T) {
	lesser := 0
	for seed := range int64(500) {
		f := graphs.Reckoner(rand.New(rand.NewSource(seed)).Intn, 3, 1)
		dominators, _ := Dominators(f)
		rows(3, 8, func(row []int) {
			other := subsets(row)
			if fmt.Sprint(followsDominators(f, other)) != fmt.Sprint(other) {
				return
			}
			if !isWithin(other, dominators) {
				t.Fatalf("P14.3: Dominators of %s: %v, but a solution is %v", dump(f), dominators, other)
			}
			if !isWithin(dominators, other) {
				lesser++
			}
		})
	}
	if lesser < 20 {
		t.Errorf("P14.3: only %d solutions are lesser", lesser)
	}
}

// TestLeastNumbers tries all numbers: each solution has at least those of the answer.
func TestLeastNumbers(t *testing.T) {
	for seed := range int64(1000) {
		r := rand.New(rand.NewSource(seed))
		start := []int{r.Intn(4), r.Intn(4), r.Intn(4), r.Intn(4)}
		edges := make([][2]int, r.Intn(7))
		for i := range edges {
			edges[i] = [2]int{r.Intn(4), r.Intn(4)}
		}
		isSolution := func(x []int) bool {
			for i := range x {
				if x[i] < start[i] {
					return false
				}
			}
			return !slices.ContainsFunc(edges, func(e [2]int) bool { return x[e[1]] < x[e[0]] })
		}
		l, _ := Solve(4, edges, start, 3)
		if len(l) != 4 || !isSolution(l) {
			t.Fatalf("P14.3: Solve of %v, %v: %v", edges, start, l)
		}
		rows(4, 4, func(row []int) {
			if !isSolution(row) {
				return
			}
			for i := range row {
				if row[i] < l[i] {
					t.Fatalf("P14.3: Solve of %v, %v: %v, but a solution is %v", edges, start, l, row)
				}
			}
		})
	}
}
