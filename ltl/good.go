package ltl

import "plumbob/rtl"

// Answer is where what a call answers stands.
const Answer = rax

// isOverLocations tells whether all that names registers in a function of a well formed program names locations, as chapter 16 has them.
func isOverLocations(f rtl.Func) bool {
	if f.Regs < FirstSlot || !areParams(f.Params) {
		return false
	}
	for _, i := range f.Code {
		if !takes(i) {
			return false
		}
	}
	return true
}

// areParams tells whether locations are the first ones of the order of parameters.
func areParams(l []int) bool {
	for i, loc := range l {
		if at, ok := Param(i); !ok || loc != at {
			return false
		}
	}
	return true
}

// takes tells whether an instruction names no location that it may not.
func takes(i rtl.Instr) bool {
	switch i.Op {
	case rtl.Call:
		return areParams(i.Args) && i.D == Answer
	case rtl.Return:
		return i.A == Answer
	}
	for loc := range rtl.Uses(i) {
		if Reserved(loc) {
			return false
		}
	}
	d, ok := rtl.Target(i)
	return !ok || !Reserved(d)
}

// Reserved tells whether a location is never named: one is the stack's, two are left to the code that is made later.
func Reserved(loc int) bool { return loc == rsp || loc == r10 || loc == r11 }
