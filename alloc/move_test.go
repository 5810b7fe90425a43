package alloc

import (
	"maps"
	"math/rand"
	"slices"
	"testing"

	"plumbob/rtl"
)

// spare is a location that none of the tests' moves names.
const spare = 99

// made tells what locations have when a row of instructions was done: each had its own number at first.
func made(t *testing.T, row []rtl.Instr) map[int]int {
	t.Helper()
	has := map[int]int{}
	value := func(loc int) int {
		if v, ok := has[loc]; ok {
			return v
		}
		return loc
	}
	for _, i := range row {
		switch i.Op {
		case rtl.Copy:
			has[i.D] = value(i.A)
		case rtl.Const:
			has[i.D] = -1
		default:
			t.Errorf("P17.2: a move is %+v", i)
		}
	}
	return has
}

// moves asks that a row does what some moves do at once, and how long it is.
func moves(t *testing.T, l []move, length int) {
	t.Helper()
	before := slices.Clone(l)
	row := inARow(l, spare)
	if len(row) != length || !slices.Equal(l, before) {
		t.Errorf("P17.2: %v in a row: %d instructions, want %d: %+v", before, len(row), length, row)
	}
	has := made(t, row)
	for _, m := range l {
		v, isWritten := has[m.to]
		if !isWritten {
			v = m.to
		}
		if v != m.from {
			t.Errorf("P17.2: %v in a row: %d has %d: %+v", before, m.to, v, row)
		}
		delete(has, m.to)
	}
	delete(has, spare)
	if len(has) != 0 {
		t.Errorf("P17.2: %v in a row: changed besides: %v", before, has)
	}
}

func TestMoves(t *testing.T) {
	for _, c := range []struct {
		l      []move
		length int
	}{
		{nil, 0}, {[]move{{1, 1}}, 0}, {[]move{{1, 2}}, 1}, {[]move{{none, 2}}, 1}, {[]move{{1, 2}, {2, 3}}, 2}, {[]move{{2, 3}, {1, 2}}, 2}, {[]move{{none, 2}, {2, 3}}, 2},
		{[]move{{1, 2}, {2, 1}}, 3}, {[]move{{1, 2}, {2, 3}, {3, 1}}, 4}, {[]move{{3, 2}, {1, 3}, {2, 1}}, 4},
		{[]move{{1, 2}, {2, 1}, {3, 4}, {4, 3}, {5, 6}, {6, 5}}, 9}, {[]move{{1, 2}, {2, 1}, {1, 3}, {2, 4}}, 5}, {[]move{{1, 2}, {2, 1}, {1, 5}, {3, 3}}, 4},
		{[]move{{1, 2}, {1, 3}, {1, 4}}, 3}, {[]move{{1, 1}, {1, 2}, {none, 3}}, 2},
	} {
		moves(t, c.l, c.length)
	}
}

// TestMovesByChance has moves of each shape: one that a ring alone is left of is put aside, and nothing else is.
func TestMovesByChance(t *testing.T) {
	aside := 0
	for seed := range int64(20000) {
		r := rand.New(rand.NewSource(seed))
		var l []move
		for _, to := range shuffled(r, numbers(8))[:r.Intn(9)] {
			l = append(l, move{r.Intn(3+r.Intn(7)) - 1, to})
		}
		n := rings(l)
		length := n
		for _, m := range l {
			if m.from != m.to {
				length++
			}
		}
		moves(t, l, length)
		aside += min(1, n)
	}
	if aside < 1000 {
		t.Errorf("P17.2: %d have rings", aside)
	}
}

// rings tells how many rings of locations change places.
func rings(l []move) int {
	from := map[int]int{}
	for _, m := range l {
		if m.from != m.to {
			from[m.to] = m.from
		}
	}
	count := 0
	for len(from) > 0 {
		start := slices.Min(slices.Collect(maps.Keys(from)))
		var way []int
		at, isMoved := start, true
		for isMoved && !slices.Contains(way, at) {
			way = append(way, at)
			at, isMoved = from[at]
		}
		if isMoved {
			count++
		}
		for _, loc := range way {
			delete(from, loc)
		}
	}
	return count
}
