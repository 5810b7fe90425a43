package alloc

import (
	"slices"

	"plumbob/flow"
	"plumbob/ltl"
	"plumbob/rtl"
)

// writer lays a function over locations.
type writer struct {
	*scene
	giving []int
	starts []int // by node: where it begins in the code
	code   []rtl.Instr
}

// located is a function whose registers have the locations of a giving that is valid. What can't be reached is left out.
func located(s *scene, giving []int) rtl.Func {
	w := &writer{scene: s, giving: giving, starts: make([]int, len(s.f.Code))}
	rows := [][]rtl.Instr{w.arrival()}
	length := len(rows[0])
	for n, i := range flow.Each(s.f) {
		w.starts[n] = length
		rows = append(rows, w.row(i))
		length += len(rows[len(rows)-1])
	}
	for _, row := range rows {
		w.lay(row)
	}
	params, _ := parameters(len(s.f.Params))
	return rtl.Func{Name: s.f.Name, Params: params, Regs: registers(w.code), Frame: s.f.Frame, Code: w.code}
}

// parameters tells where so many parameters, or arguments, stand, if so many may be.
func parameters(count int) ([]int, bool) {
	var l []int
	for n := range count {
		loc, ok := ltl.Param(n)
		if !ok {
			return nil, false
		}
		l = append(l, loc)
	}
	return l, true
}

// registers tells how many locations there must be.
func registers(code []rtl.Instr) int {
	last := ltl.FirstSlot - 1
	for _, i := range code {
		for loc := range rtl.Uses(i) {
			last = max(last, loc)
		}
		if d, ok := rtl.Target(i); ok {
			last = max(last, d)
		}
	}
	return last + 1
}

// lay writes instructions that go on at one another, and the last one where it says.
func (w *writer) lay(row []rtl.Instr) {
	for n, i := range row {
		switch {
		case n < len(row)-1:
			i.S = len(w.code) + 1
		case i.Op == rtl.Cond:
			i.S, i.T = w.starts[i.S], w.starts[i.T]
		case i.Op != rtl.Return:
			i.S = w.starts[i.S]
		}
		w.code = append(w.code, i)
	}
}

// arrival moves the parameters to their registers' locations. Other registers that may be read first have no value as yet: one that has a parameter's location gets 0, since what stands there might be taken amiss.
func (w *writer) arrival() []rtl.Instr {
	params, _ := parameters(len(w.f.Params))
	var moves []move
	var busy []int
	for _, r := range w.arriving() {
		from, to := none, w.giving[r]
		if n := slices.Index(w.f.Params, r); n >= 0 {
			from = params[n]
		}
		if from != none || slices.Contains(params, to) {
			moves = append(moves, move{from, to})
		}
		busy = append(busy, to)
	}
	row := inARow(moves, unlike(busy))
	return ending(row, w.f.Entry)
}

// unlike tells a location that is none of some.
func unlike(busy []int) int {
	for loc := range locations() {
		if !slices.Contains(busy, loc) {
			return loc
		}
	}
	return none
}

// ending has instructions go on at a node at last.
func ending(row []rtl.Instr, node int) []rtl.Instr {
	if len(row) > 0 {
		row[len(row)-1].S = node
	}
	return row
}

// row has what an instruction does over locations.
func (w *writer) row(i rtl.Instr) []rtl.Instr {
	i = rtl.Renamed(i, func(r int) int { return w.giving[r] })
	switch i.Op {
	case rtl.Copy:
		if i.A == i.D {
			return []rtl.Instr{{Op: rtl.Nop, S: i.S}}
		}
	case rtl.Call:
		return w.call(i)
	case rtl.Return:
		return append(inARow([]move{{i.A, ltl.Answer}}, none), rtl.Instr{Op: rtl.Return, A: ltl.Answer})
	}
	return []rtl.Instr{i}
}

// call moves arguments to where they must stand, and the answer from there. What stood where answers do is read by then, if rings alone are left, and no call keeps it: so that is the spare location.
func (w *writer) call(i rtl.Instr) []rtl.Instr {
	args, _ := parameters(len(i.Args))
	var moves []move
	for n, from := range i.Args {
		moves = append(moves, move{from, args[n]})
	}
	row := append(inARow(moves, ltl.Answer), rtl.Instr{Op: rtl.Call, Sub: i.Sub, Args: args, D: ltl.Answer})
	if i.D != none {
		row = append(row, inARow([]move{{ltl.Answer, i.D}}, none)...)
	}
	return ending(row, i.S)
}
