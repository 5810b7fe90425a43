package flow

import (
	"fmt"
	"math/rand"
	"slices"
	"testing"

	"plumbob/api"
)

// solves asks what Solve comes to, and that it changes nothing.
func solves(t *testing.T, what string, edges [][2]int, start []int, most int, want []int) {
	t.Helper()
	given, first := slices.Clone(edges), slices.Clone(start)
	got, e := Solve(len(start), edges, start, most)
	if e != api.OK || !slices.Equal(got, want) {
		t.Errorf("P14.2: Solve of %s: %.200s (%d), want %.200s", what, fmt.Sprint(got), e, fmt.Sprint(want))
	}
	if !slices.Equal(edges, given) || !slices.Equal(start, first) {
		t.Errorf("R4: Solve of %s changes what it is given", what)
	}
	clear(got[:cap(got)])
	if again, _ := Solve(len(start), edges, start, most); !slices.Equal(again, want) {
		t.Errorf("R5: Solve of %s once more: %.200s", what, fmt.Sprint(again))
	}
}

func TestSolve(t *testing.T) {
	type edges = [][2]int
	for _, c := range []struct {
		name  string
		edges edges
		start []int
		most  int
		want  []int
	}{
		{"the example", edges{{0, 1}, {1, 2}}, []int{5, 0, 7}, 10, []int{5, 5, 7}},
		{"nothing", nil, nil, 0, nil}, {"nothing, and the most", edges{}, []int{}, 1000000, nil},
		{"one", nil, []int{4}, 4, []int{4}}, {"one with an edge to itself", edges{{0, 0}}, []int{4}, 9, []int{4}},
		{"no edges", nil, []int{3, 0, 2}, 3, []int{3, 0, 2}}, {"all 0", edges{{0, 1}}, []int{0, 0}, 0, []int{0, 0}},
		{"the greatest", edges{{0, 1}}, []int{1000000, 0}, 1000000, []int{1000000, 1000000}},
		{"an edge from the less", edges{{0, 1}}, []int{3, 8}, 9, []int{3, 8}}, {"an edge from the greater", edges{{1, 0}}, []int{3, 8}, 9, []int{8, 8}}, {"an edge between equals", edges{{1, 0}}, []int{8, 8}, 9, []int{8, 8}},
		{"a ring", edges{{0, 1}, {1, 2}, {2, 0}}, []int{1, 6, 2}, 9, []int{6, 6, 6}}, {"a ring, entered", edges{{3, 1}, {0, 1}, {1, 2}, {2, 0}}, []int{1, 6, 2, 7}, 9, []int{7, 7, 7, 7}}, {"a ring, left", edges{{2, 3}, {0, 1}, {1, 2}, {2, 0}}, []int{1, 6, 2, 0}, 9, []int{6, 6, 6, 6}},
		{"two rings", edges{{0, 1}, {1, 0}, {2, 3}, {3, 2}}, []int{4, 0, 0, 5}, 9, []int{4, 4, 5, 5}},
		{"edges that repeat", edges{{0, 1}, {0, 1}, {1, 2}, {0, 1}, {1, 2}}, []int{4, 0, 0}, 9, []int{4, 4, 4}}, {"edges to themselves", edges{{0, 0}, {1, 1}, {0, 1}, {0, 0}}, []int{4, 0}, 9, []int{4, 4}},
		{"edges in the worst order", edges{{3, 4}, {2, 3}, {1, 2}, {0, 1}}, []int{4, 0, 0, 0, 0}, 9, []int{4, 4, 4, 4, 4}},
		{"two ways, the less first", edges{{0, 2}, {1, 2}, {2, 3}}, []int{4, 6, 0, 5}, 9, []int{4, 6, 6, 6}}, {"a greater one midway", edges{{0, 1}, {1, 2}}, []int{4, 6, 0}, 9, []int{4, 6, 6}},
		{"an edge to one that is not less", edges{{0, 1}, {1, 2}, {2, 3}}, []int{2, 5, 1, 0}, 5, []int{2, 5, 5, 5}},
	} {
		solves(t, c.name, c.edges, c.start, c.most, c.want)
		shuffled := slices.Clone(c.edges)
		for seed := range int64(5) {
			rand.New(rand.NewSource(seed)).Shuffle(len(shuffled), func(a, b int) { shuffled[a], shuffled[b] = shuffled[b], shuffled[a] })
			solves(t, c.name+", mixed", shuffled, c.start, c.most, c.want)
		}
	}
}

// TestSolveLimits has what is taken and what is refused, at each limit and one past it.
func TestSolveLimits(t *testing.T) {
	type edges = [][2]int
	numbers := func(count, n int) []int { return slices.Repeat([]int{n}, count) }
	for i, c := range []struct {
		n     int
		edges edges
		start []int
		most  int
		want  api.Errno
	}{
		{0, nil, nil, 0, api.OK}, {2000, nil, numbers(2000, 0), 0, api.OK}, {2001, nil, numbers(2001, 0), 0, api.EARG}, {-1, nil, nil, 0, api.EARG}, {highest, nil, nil, 0, api.EARG}, {lowest, nil, nil, 0, api.EARG},
		{1, nil, nil, 0, api.EARG}, {0, nil, []int{0}, 0, api.EARG}, {2, nil, []int{0}, 0, api.EARG}, {2, nil, numbers(3, 0), 0, api.EARG}, {2000, nil, numbers(1999, 0), 0, api.EARG}, {2000, nil, numbers(2001, 0), 0, api.EARG},
		{2, nil, []int{7, 0}, 7, api.OK}, {2, nil, []int{0, 8}, 7, api.EARG}, {2, nil, []int{8, 0}, 7, api.EARG}, {2, nil, []int{0, -1}, 7, api.EARG}, {2, nil, []int{lowest, 0}, 7, api.EARG}, {2, nil, []int{0, highest}, 7, api.EARG},
		{0, nil, nil, 1000000, api.OK}, {1, nil, []int{1000000}, 1000000, api.OK}, {1, nil, []int{1000001}, 1000000, api.EARG}, {1, nil, []int{0}, 1000001, api.EARG}, {1, nil, []int{0}, -1, api.EARG}, {0, nil, nil, -1, api.EARG}, {0, nil, nil, 1000001, api.EARG}, {0, nil, nil, highest, api.EARG}, {0, nil, nil, lowest, api.EARG}, {1, nil, []int{1}, 0, api.EARG},
		{2, edges{{0, 1}, {1, 1}}, numbers(2, 0), 0, api.OK}, {2, edges{{0, 1}, {1, 2}}, numbers(2, 0), 0, api.EARG}, {2, edges{{2, 1}}, numbers(2, 0), 0, api.EARG}, {2, edges{{-1, 1}}, numbers(2, 0), 0, api.EARG}, {2, edges{{1, -1}, {0, 0}}, numbers(2, 0), 0, api.EARG}, {2, edges{{1, highest}}, numbers(2, 0), 0, api.EARG}, {2, edges{{lowest, 1}}, numbers(2, 0), 0, api.EARG},
		{0, edges{{0, 0}}, nil, 0, api.EARG}, {0, edges{{-1, -1}}, nil, 0, api.EARG}, {2000, edges{{1999, 0}, {0, 1999}}, numbers(2000, 0), 0, api.OK}, {2000, edges{{2000, 0}}, numbers(2000, 0), 0, api.EARG},
	} {
		l, e := Solve(c.n, c.edges, c.start, c.most)
		if e != c.want || e == api.OK && len(l) != c.n || e != api.OK && l != nil {
			t.Errorf("P14.2: Solve of number %d: %d numbers (%d), want %d", i, len(l), e, c.want)
		}
	}
}

// TestLongChains has as many numbers as there may be, in rows, each way round, with the edges in the order that is worst.
func TestLongChains(t *testing.T) {
	const most = 2000
	var up, down [][2]int
	for n := range most - 1 {
		up = append(up, [2]int{n, n + 1})
		down = append(down, [2]int{n + 1, n})
	}
	rising, falling := make([]int, most), make([]int, most)
	first, last := make([]int, most), make([]int, most)
	for n := range most {
		rising[n], falling[n] = n, most-n
	}
	first[0], last[most-1] = 9, 9
	all := func(n int) []int { return slices.Repeat([]int{n}, most) }
	for _, turned := range []bool{false, true} {
		solves(t, "a row from its first", up, first, 9, all(9))
		solves(t, "a row from its last", down, last, 9, all(9))
		solves(t, "a row to its first", up, last, 9, last)
		solves(t, "a row that rises", up, rising, most, rising)
		solves(t, "a row that rises, back", down, rising, most, all(most-1))
		solves(t, "a row that falls", up, falling, most, all(most))
		solves(t, "a row there and back", slices.Concat(up, down), rising, most, all(most-1))
		if !turned {
			slices.Reverse(up)
			slices.Reverse(down)
		}
	}
	// All edges that there may be.
	var whole [][2]int
	for a := range most {
		for b := range most {
			whole = append(whole, [2]int{a, b})
		}
	}
	solves(t, "all edges", whole, rising, most, all(most-1))
}
