package gen

import (
	"plumbob/api"
	"plumbob/codes"
	"plumbob/rtl"
)

const lastShift = 63

// shift shifts by a constant, or by rcx, which is kept.
func (w *writer) shift(i *rtl.Instr) {
	if !hasLocation(i) {
		to := target(i.D)
		w.fetch(to, i.A)
		// By more than that nothing can be shifted: so what is done then is never come to.
		w.add(codes.Shift(i.Sub, to, i.K&lastShift))
		w.put(i.D, to)
		return
	}
	r := room(i)
	if r == rcx {
		r = first
	}
	w.fetch(r, i.A)
	isKept := i.B != rcx && i.D != rcx
	if isKept {
		w.add(codes.MovR(second, rcx))
	}
	w.fetch(rcx, i.B)
	w.add(codes.ShiftC(i.Sub, r))
	if isKept {
		w.add(codes.MovR(rcx, second))
	}
	w.put(i.D, r)
}

// divide divides rax. It and rdx are kept, but for the one to which the value goes.
func (w *writer) divide(i *rtl.Instr) {
	if i.D != rax || i.B == rax {
		w.add(codes.MovR(first, rax))
	}
	isCrowded := isWord(i.D) && !isInRegister(i)
	if !isCrowded && (i.D != rdx || i.B == rdx) {
		w.add(codes.MovR(second, rdx))
	}
	w.fetch(rax, i.A)
	by := w.divisor(i)
	if isCrowded {
		w.divideCrowded(i, by)
	} else {
		w.divideBy(i, by)
	}
	if i.D != rax {
		w.add(codes.MovR(rax, first))
	}
}

// divideBy divides by a register, while the second spare one keeps rdx.
func (w *writer) divideBy(i *rtl.Instr, by int) {
	w.add(codes.Cqo(), codes.Idiv(by))
	w.put(i.D, answer(i))
	if i.D != rdx {
		w.add(codes.MovR(rdx, second))
	}
}

// divideCrowded divides where the spare registers keep rax and have the divisor: so rdx is kept in the word to which the value goes.
func (w *writer) divideCrowded(i *rtl.Instr, by int) {
	w.put(i.D, rdx)
	w.add(codes.Cqo(), codes.Idiv(by), codes.MovR(by, answer(i)))
	w.fetch(rdx, i.D)
	w.put(i.D, by)
}

// answer tells the register in which the machine leaves what is asked of a division.
func answer(i *rtl.Instr) int {
	if i.Sub == api.Mod {
		return rdx
	}
	return rax
}

// divisor tells the register that has the divisor when rax has what is divided. One that is in no register is brought to the one to which the value goes, or to where that would be kept.
func (w *writer) divisor(i *rtl.Instr) int {
	by := i.D
	switch {
	case i.B == rax || !isInRegister(i) && i.D == rax:
		by = first
	case i.B == rdx || !isInRegister(i) && (i.D == rdx || isWord(i.D)):
		by = second
	case isInRegister(i):
		by = i.B
	}
	w.bring(by, i)
	return by
}
