package gen

import (
	"plumbob/api"
	"plumbob/asm"
	"plumbob/codes"
	"plumbob/linear"
	"plumbob/ltl"
	"plumbob/mach"
	"plumbob/rtl"
	"plumbob/val"
)

// The registers that some instructions take without naming them.
const (
	rax = 0
	rcx = 1
	rdx = 2
	rsp = 4
)

// The registers that no deed names: they are free between deeds.
const (
	first  = 10 // has what a deed reads or makes, if that is in no register
	second = 11 // has its other operand then
)

const wordBytes = 8

// writer writes a function's code.
type writer struct {
	function *mach.Func
	code     []asm.Ins
}

// emitted is a function's code.
func emitted(f *mach.Func) asm.Func {
	w := &writer{function: f}
	if f.Frame > 0 {
		w.add(codes.Enter(int64(f.Frame)))
	}
	for n := range f.Code {
		w.write(&f.Code[n])
	}
	return asm.Func{Name: f.Name, Code: w.code}
}

func (w *writer) add(l ...asm.Ins) { w.code = append(w.code, l...) }

// write writes what an instruction does.
func (w *writer) write(i *linear.Ins) {
	switch i.Kind {
	case linear.Plain:
		w.deed(&i.Deed)
	case linear.Label:
		w.add(codes.Label(i.Label))
	case linear.Jump:
		w.add(codes.Jmp(i.Label))
	case linear.Choice:
		w.choose(i)
	case linear.Call:
		w.add(codes.Call(i.Deed.Sub))
	case linear.Return:
		w.leave()
	case mach.Blank:
		// What has no value may have any but a pointer, whose bytes can not be stored apart.
		w.add(codes.MovK(i.Deed.D, 0))
	}
}

func (w *writer) leave() {
	if w.function.Frame > 0 {
		w.add(codes.Leave(int64(w.function.Frame)))
	}
	w.add(codes.Ret())
}

func (w *writer) choose(i *linear.Ins) {
	condition := i.Deed.Sub
	if !i.IfSo {
		condition, _ = val.Flip(condition)
	}
	w.compare(&i.Deed)
	w.add(codes.Jcc(condition, i.Label))
}

// isWord tells whether a location is a word of the frame.
func isWord(loc int) bool { return loc >= ltl.FirstSlot }

// fetch brings into a register what a location has.
func (w *writer) fetch(r, loc int) {
	switch {
	case isWord(loc):
		w.add(codes.Load(wordBytes, r, rsp, w.place(loc)))
	case r != loc:
		w.add(codes.MovR(r, loc))
	}
}

// put brings into a location what a register has.
func (w *writer) put(loc, r int) {
	if isWord(loc) {
		w.add(codes.Store(wordBytes, rsp, w.place(loc), r))
		return
	}
	w.fetch(loc, r)
}

// place tells at which byte of the frame a word is.
func (w *writer) place(loc int) int64 { return int64(w.function.Word(loc)) }

// held tells the register that has what a location has: a spare one, into which it is brought, if it is a word.
func (w *writer) held(loc, spare int) int {
	if !isWord(loc) {
		return loc
	}
	w.fetch(spare, loc)
	return spare
}

// operand tells the register that has a deed's second operand: the second spare one, if it is in none.
func (w *writer) operand(i *rtl.Instr) int {
	if isInRegister(i) {
		return i.B
	}
	w.bring(second, i)
	return second
}

// bring brings a deed's second operand into a register, if it is in none.
func (w *writer) bring(r int, i *rtl.Instr) {
	switch {
	case !hasLocation(i):
		w.add(codes.MovK(r, i.K))
	case isWord(i.B):
		w.fetch(r, i.B)
	}
}

// isInRegister tells whether a deed's second operand is in a register.
func isInRegister(i *rtl.Instr) bool { return hasLocation(i) && !isWord(i.B) }

// hasLocation tells whether a deed's second operand is no constant.
func hasLocation(i *rtl.Instr) bool { return i.B >= 0 }

// isShort tells whether a number has 32 bits, so that an instruction can have it.
func isShort(k int64) bool { return int64(int32(k)) == k }

// target tells the register in which what goes to a location is made.
func target(loc int) int {
	if isWord(loc) {
		return first
	}
	return loc
}

// compare makes a deed's operands the flags.
func (w *writer) compare(i *rtl.Instr) {
	left := w.held(i.A, first)
	if !hasLocation(i) && isShort(i.K) {
		w.add(codes.CmpK(left, i.K))
		return
	}
	w.add(codes.Cmp(left, w.operand(i)))
}

// isComparison tells whether an operation answers a truth.
func isComparison(op int) bool { return api.Eq <= op && op <= api.Ge }
