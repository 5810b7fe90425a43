package alloc

import (
	"iter"
	"slices"

	"plumbob/rtl"
)

// move is what a location gets: what another one has, or, from none, 0.
type move struct{ from, to int }

// sources gives the locations that some moves read.
func sources(moves []move) iter.Seq[int] {
	return func(yield func(int) bool) {
		for _, m := range moves {
			if !yield(m.from) {
				return
			}
		}
	}
}

// inARow has moves that are made at once, to unlike locations, as instructions one behind the other. Where some change places in a ring, what one of them has is put aside in a spare location.
func inARow(moves []move, spare int) []rtl.Instr {
	left := slices.DeleteFunc(slices.Clone(moves), func(m move) bool { return m.from == m.to })
	var row []rtl.Instr
	for len(left) > 0 {
		at := next(left)
		if at == none { // rings alone are left
			row = append(row, move{left[0].from, spare}.instruction())
			left[0].from = spare
			continue
		}
		row = append(row, left[at].instruction())
		left = slices.Delete(left, at, at+1)
	}
	return row
}

// next tells which of some moves may be made ahead of the others: what its location had they don't read. It tells none, if there is none.
func next(moves []move) int {
search:
	for at, m := range moves {
		for from := range sources(moves) {
			if from == m.to {
				continue search
			}
		}
		return at
	}
	return none
}

func (m move) instruction() rtl.Instr {
	if m.from == none {
		return rtl.Instr{Op: rtl.Const, D: m.to}
	}
	return rtl.Instr{Op: rtl.Copy, A: m.from, D: m.to}
}
