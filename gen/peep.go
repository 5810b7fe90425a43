package gen

import (
	"slices"

	"plumbob/asm"
)

// Peep leaves out what does nothing.
func Peep(f asm.Func) asm.Func {
	return asm.Func{Name: f.Name, Code: withoutIdleLabels(withoutIdleDeeds(f.Code))}
}

// withoutIdleDeeds is code without moves to where the value is, and jumps to where the code goes on. It is gone through from its end on, so that what is left out behind an instruction is known there.
func withoutIdleDeeds(code []asm.Ins) []asm.Ins {
	var l []asm.Ins
	row := 1               // the number of the row of labels in which the next instruction would stand
	rowOf := map[int]int{} // by label
	for _, i := range slices.Backward(code) {
		switch {
		case i.Op == asm.Label:
			rowOf[i.L] = row
		case i.Op == asm.MovR && i.R == i.M, i.Op == asm.Jmp && rowOf[i.L] == row:
			continue
		default:
			row++
		}
		l = append(l, i)
	}
	slices.Reverse(l)
	return l
}

// withoutIdleLabels is code without labels that nothing names.
func withoutIdleLabels(code []asm.Ins) []asm.Ins {
	names := map[int]int{}
	for _, i := range code {
		if i.Op == asm.Jmp || i.Op == asm.Jcc {
			names[i.L]++
		}
	}
	return slices.DeleteFunc(code, func(i asm.Ins) bool { return i.Op == asm.Label && names[i.L] == 0 })
}
