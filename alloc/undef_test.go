package alloc

import (
	"testing"

	"plumbob/api"
	"plumbob/ltl"
	"plumbob/rtl"
)

// haltsAs asks that a program that halts does the same over locations.
func haltsAs(t *testing.T, what string, p, q rtl.Prog, args []int64) {
	t.Helper()
	if !ltl.Good(q) {
		t.Fatalf("P17.2: %s: %s", what, rtl.Text(q))
	}
	if kind := newBench(t, p, q).holds(args, nil); kind != api.Halt {
		t.Errorf("P12.1: %s: it ends %d: %s", what, kind, rtl.Text(p))
	}
}

// TestNoAnswer: where nothing is answered, no pointer is by chance, which could not be stored as a part.
func TestNoAnswer(t *testing.T) {
	for _, chunk := range []int{1, 4, 8} {
		main := function(3, row(frame(0), callOf(1, 1), store(chunk, 0, 1), constant(2, 7), leave(2))...)
		none := function(1, row(frame(0), store(8, 0, 0), leave(-1))...)
		p := program(main, none)
		q := madeOf(t, p)
		haltsAs(t, "no answer", p, q, nil)
		q.Funcs[1] = over(t, none, []int{0})
		haltsAs(t, "no answer, and a pointer where answers stand", p, q, nil)
	}
}

// TestNoValue: a register that is read first is not taken for a parameter that nobody reads, nor for one that has left its place.
func TestNoValue(t *testing.T) {
	for _, giving := range [][]int{{6, 3, 7}, {7, 3, 6}, {6, 3, 2}, {0, 3, 7}, {3, 0, 6}, {16, 17, 7}, {16, 17, 18}, {7, 6, 0}} {
		main := function(3, row(frame(0), callOf(1, 1, 0, 0), output(1), leave(1))...)
		// Of its two parameters, 0 is read, and 1 is not; 2 has no value when it is stored.
		for _, reads := range [][]int{{0}, {0, 1}} {
			code := []rtl.Instr{store(4, 0, 2)}
			for _, r := range reads[1:] {
				code = append(code, store(8, 0, r))
			}
			f := with(function(3, row(append(code, constant(0, 5), leave(0))...)...), 0, 1)
			p := program(main, f)
			q := madeOf(t, p)
			haltsAs(t, "no value", p, q, nil)
			q.Funcs[1] = over(t, f, giving)
			haltsAs(t, "no value at a place", p, q, nil)
		}
	}
}

// TestManyWithoutValues has as many as there are places for parameters, while these change theirs.
func TestManyWithoutValues(t *testing.T) {
	f := with(function(13, row(store(4, 0, 6), store(4, 1, 7), store(4, 2, 8), store(4, 3, 9), store(4, 4, 10), store(4, 5, 11), constant(12, 5), leave(12))...), numbers(6)...)
	main := function(2, row(frame(0), callOf(1, 1, 0, 0, 0, 0, 0, 0), leave(1))...)
	p := program(main, f)
	for _, giving := range [][]int{
		{16, 17, 18, 19, 20, 21, 7, 6, 2, 1, 8, 9, 0}, {6, 7, 16, 17, 18, 19, 2, 1, 8, 9, 0, 3, 0}, {6, 7, 1, 2, 9, 8, 0, 3, 5, 12, 13, 14, 15}, {6, 2, 1, 8, 9, 16, 7, 0, 3, 5, 12, 13, 14},
	} {
		q := madeOf(t, p)
		haltsAs(t, "many without values", p, q, nil)
		q.Funcs[1] = over(t, f, giving)
		haltsAs(t, "many without values at places", p, q, nil)
	}
}

// TestSpareAtEntry: where parameters change places in a ring, what is put aside takes no place of one without a value.
func TestSpareAtEntry(t *testing.T) {
	var code []rtl.Instr
	giving := []int{6, 7}
	for n, loc := range []int{0, 2, 1, 8, 9, 3, 5, 12, 13, 14, 15, 16, 17} {
		code = append(code, store(4, 0, n+2))
		giving = append(giving, loc)
	}
	for count := range len(code) + 1 {
		f := with(function(count+2, row(append(append([]rtl.Instr{store(8, 0, 1)}, code[:count]...), constant(0, 5), leave(0))...)...), 0, 1)
		p := program(function(2, row(frame(0), callOf(1, 1, 0, 0), leave(1))...), f)
		q := madeOf(t, p)
		q.Funcs[1] = over(t, f, giving[:count+2])
		haltsAs(t, "a ring", p, q, nil)
	}
}

// TestDeepCalls has as many calls within one another as there may be.
func TestDeepCalls(t *testing.T) {
	down := with(function(3, row(test(0, 0, 2), leave(0), fixed(api.Sub, 0, 1, 2), callOf(0, 1, 2), add(1, 0, 1), leave(1))...), 0)
	p := program(down)
	q := madeOf(t, p)
	for _, depth := range []int64{0, 1, 19998, 19999} {
		before, _ := rtl.Run(p, l(depth), nil, 1000000)
		after, e := ltl.Run(q, l(depth), nil, 20*before.Steps+100)
		if before.Kind != api.Halt || e != api.OK || after.Kind != api.Halt || after.Exit != depth*(depth+1)/2 || after.Steps < before.Steps {
			t.Errorf("P17.2: %d calls deep: %v, %v (%d)", depth, after.Exit, after.Kind, e)
		}
	}
}
