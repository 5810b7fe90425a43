package linear

import (
	"plumbob/rtl"
	"plumbob/walk"
)

// tunnelled is a function whose nodes leap over Nops.
func tunnelled(f rtl.Func) rtl.Func {
	ends := ends(f.Code)
	f = rtl.Clone(f)
	f.Entry = ends[f.Entry]
	for n := range f.Code {
		i := &f.Code[n]
		if i.Op != rtl.Return {
			i.S = ends[i.S]
		}
		if i.Op == rtl.Cond {
			i.T = ends[i.T]
		}
	}
	return f
}

// ends tells of each node the first one from there on that is no Nop; the node itself, where there is none.
func ends(code []rtl.Instr) []int {
	ahead := make([][]int, len(code)) // by node: the Nops that go on there
	l := make([]int, len(code))
	for n, i := range code {
		l[n] = n
		if i.Op == rtl.Nop {
			ahead[i.S] = append(ahead[i.S], n)
		}
	}
	search := walk.New(ahead)
	for end, i := range code {
		if i.Op == rtl.Nop {
			continue
		}
		for n := range search.From(end) {
			l[n] = end
		}
	}
	return l
}
