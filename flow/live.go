package flow

import "plumbob/rtl"

// touches tells of each register which nodes read it, and which write it.
func touches(f rtl.Func) (readers, writers [][]int) {
	readers, writers = make([][]int, f.Regs), make([][]int, f.Regs)
	for n, i := range f.Code {
		for r := range rtl.Uses(i) {
			readers[r] = append(readers[r], n)
		}
		if r, ok := rtl.Target(i); ok {
			writers[r] = append(writers[r], n)
		}
	}
	return readers, writers
}

// live goes back from each register's readers to its writers: register by register, so that a node has them rising.
func live(f rtl.Func) [][]int {
	readers, writers := touches(f)
	back := newSearch(backward(f.Code))
	l := make([][]int, len(f.Code))
	for r := range f.Regs {
		clear(back.met)
		for _, n := range writers[r] {
			back.met[n] = true
		}
		for _, n := range readers[r] { // one that writes it, too, reads it first
			back.met[n] = false
		}
		for n := range back.from(readers[r]...) {
			l[n] = append(l[n], r)
		}
	}
	return l
}
