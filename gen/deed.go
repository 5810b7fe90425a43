package gen

import (
	"plumbob/api"
	"plumbob/codes"
	"plumbob/rtl"
	"plumbob/val"
)

// deed writes one that goes straight on.
func (w *writer) deed(i *rtl.Instr) {
	switch i.Op {
	case rtl.Copy:
		w.copy(i)
	case rtl.Store:
		w.store(i)
	case rtl.In:
		w.input(i)
	case rtl.Out:
		w.output(i)
	case rtl.Bin:
		w.reckon(i)
	default:
		to := target(i.D)
		w.make(i, to)
		w.put(i.D, to)
	}
}

// make makes a deed's value in a register.
func (w *writer) make(i *rtl.Instr, to int) {
	switch i.Op {
	case rtl.Const:
		w.add(codes.MovK(to, i.K))
	case rtl.Un:
		w.alter(i, to)
	case rtl.Load:
		base, k, _ := w.address(i)
		w.add(codes.Load(i.Sub, to, base, k))
	case rtl.Global:
		w.add(codes.LeaG(to, i.Sub, i.K))
	case rtl.Frame:
		w.add(codes.Lea(to, rsp, i.K))
	}
}

func (w *writer) alter(i *rtl.Instr, to int) {
	if i.Sub == api.Ext8 || i.Sub == api.Ext32 {
		w.add(codes.Ext(i.Sub, to, w.held(i.A, first)))
		return
	}
	w.fetch(to, i.A)
	w.add(codes.Un(i.Sub, to))
}

func (w *writer) copy(i *rtl.Instr) {
	if isWord(i.D) {
		w.put(i.D, w.held(i.A, first))
		return
	}
	w.fetch(i.D, i.A)
}

// address tells the register and the offset of an access, and a register that is spare then.
func (w *writer) address(i *rtl.Instr) (base int, k int64, spare int) {
	base = w.held(i.A, first)
	if isShort(i.K) {
		return base, i.K, second
	}
	w.add(codes.MovK(second, i.K), codes.Alu(api.Add, second, base))
	return second, 0, first
}

func (w *writer) store(i *rtl.Instr) {
	base, k, spare := w.address(i)
	w.add(codes.Store(i.Sub, base, k, w.held(i.B, spare)))
}

// input keeps rax, which the machine takes for what comes in.
func (w *writer) input(i *rtl.Instr) {
	if i.D == rax {
		w.add(codes.In())
		return
	}
	w.add(codes.MovR(first, rax), codes.In())
	w.put(i.D, rax)
	w.add(codes.MovR(rax, first))
}

// output keeps rax, from which the machine takes what goes out.
func (w *writer) output(i *rtl.Instr) {
	if i.A == rax {
		w.add(codes.Out())
		return
	}
	w.add(codes.MovR(first, rax))
	w.fetch(rax, i.A)
	w.add(codes.Out(), codes.MovR(rax, first))
}

// reckon writes an operation on two values.
func (w *writer) reckon(i *rtl.Instr) {
	switch {
	case i.Sub == api.Div || i.Sub == api.Mod:
		w.divide(i)
	case i.Sub == api.Shl || i.Sub == api.Shr:
		w.shift(i)
	case isComparison(i.Sub):
		w.compare(i)
		to := target(i.D)
		w.add(codes.Set(i.Sub, to))
		w.put(i.D, to)
	case hasLocation(i) || !isShort(i.K):
		w.join(i)
	default:
		w.joinConstant(i)
	}
}

// room tells the register in which a deed's first operand is changed: where its value goes, if that is one, and the second operand is not there.
func room(i *rtl.Instr) int {
	if isWord(i.D) || i.D == i.B && i.D != i.A {
		return first
	}
	return i.D
}

func (w *writer) join(i *rtl.Instr) {
	swapped := *i
	if _, ok := val.Swap(i.Sub); ok && i.D == i.B && !isWord(i.D) {
		swapped.A, swapped.B = i.B, i.A
	}
	r := room(&swapped)
	w.fetch(r, swapped.A)
	w.add(codes.Alu(i.Sub, r, w.operand(&swapped)))
	w.put(i.D, r)
}

func (w *writer) joinConstant(i *rtl.Instr) {
	to := target(i.D)
	if i.Sub == api.Add && !isWord(i.A) && i.A != to {
		w.add(codes.Lea(to, i.A, i.K))
	} else {
		w.fetch(to, i.A)
		w.add(codes.AluK(i.Sub, to, i.K))
	}
	w.put(i.D, to)
}
