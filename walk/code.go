package walk

import (
	"slices"

	"plumbob/rtl"
)

// Forward tells of each node those at which it may go on.
func Forward(code []rtl.Instr) [][]int {
	l := make([][]int, len(code))
	for n, i := range code {
		l[n] = slices.Collect(rtl.Succs(i))
	}
	return l
}

// Backward tells of each node those that may go on there.
func Backward(code []rtl.Instr) [][]int {
	l := make([][]int, len(code))
	for n, i := range code {
		for to := range rtl.Succs(i) {
			l[to] = append(l[to], n)
		}
	}
	return l
}

// Touches tells of each register which nodes read it, and which write it.
func Touches(f rtl.Func) (readers, writers [][]int) {
	readers, writers = make([][]int, f.Regs), make([][]int, f.Regs)
	for n, i := range f.Code {
		for r := range rtl.Uses(i) {
			readers[r] = append(readers[r], n)
		}
		if r, ok := rtl.Target(i); ok {
			writers[r] = append(writers[r], n)
		}
	}
	return readers, writers
}
