package flow

import (
	"plumbob/rtl"
	"plumbob/walk"
)

// live goes back from each register's readers to its writers: register by register, so that a node has them rising.
func live(f rtl.Func) [][]int {
	readers, writers := walk.Touches(f)
	back := walk.New(walk.Backward(f.Code))
	l := make([][]int, len(f.Code))
	for r := range f.Regs {
		back.Reset()
		back.Close(writers[r]...)
		back.Open(readers[r]...) // one that writes it, too, reads it first
		for n := range back.From(readers[r]...) {
			l[n] = append(l[n], r)
		}
	}
	return l
}
