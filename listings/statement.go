package listings

import (
	"plumbob/api"
	"plumbob/codes"
)

// point points a register to the begin of the frame, or of a global, and tells how many bytes that has.
func (w *writer) point(r int) int {
	if w.frame > 0 && w.pick(2) == 0 {
		switch w.pick(3) {
		case 0:
			w.emit(codes.MovR(r, rsp))
		case 1:
			w.emit(codes.Lea(r, rsp, 0))
		case 2:
			w.emit(codes.Load(word, r, rsp, 0))
		}
		return w.frame
	}
	global := w.pick(len(w.made.Globals))
	size, k := w.made.Globals[global], int64(w.pick(9))
	w.emit(codes.LeaG(r, global, k))
	if k > 0 {
		w.emit(codes.AluK(api.Sub, r, k))
	}
	return size
}

// access reads or writes some bytes behind the first word of a block, which is a pointer's.
func (w *writer) access() {
	size := w.point(pointer)
	chunk := [...]int{1, 4, 8}[w.pick(3)]
	at := word + w.pick((size-word)/chunk)*chunk
	if at < 3*word && size == w.frame {
		at = 3*word + at%word // two words have the counts of loops
	}
	base := pointer
	k := int64(at)
	if w.pick(3) == 0 {
		w.emit(codes.Lea(other, pointer, k), codes.MovK(15, 3), codes.Alu(api.Add, other, 15))
		base, k = other, -3
	}
	if w.pick(2) == 0 {
		w.emit(codes.Store(chunk, base, k, w.int()))
		return
	}
	w.emit(codes.Load(chunk, w.int(), base, k))
}

// choose has two ways, or one.
func (w *writer) choose(depth int) {
	if depth == 0 {
		return
	}
	then, behind := w.fresh(), w.fresh()
	w.emit(codes.Cmp(w.int(), w.int()), codes.Jcc(w.condition(), then))
	w.statements(w.pick(3), depth-1)
	if w.pick(3) == 0 {
		w.emit(codes.Label(then))
		return
	}
	w.emit(codes.Jmp(behind), codes.Label(then))
	w.statements(w.pick(3), depth-1)
	w.emit(codes.Label(behind))
}

// repeat counts down in a word of the frame.
func (w *writer) repeat(depth int) {
	if depth == 0 || w.frame == 0 {
		return
	}
	again, count := w.fresh(), int64(depth*word)
	w.emit(codes.MovK(0, int64(1+w.pick(4))), codes.Store(word, rsp, count, 0), codes.Label(again))
	w.statements(1+w.pick(3), depth-1)
	w.emit(codes.Load(word, 0, rsp, count), codes.AluK(api.Sub, 0, 1), codes.Store(word, rsp, count, 0), codes.CmpK(0, 0), codes.Jcc(api.Gt, again))
}

func (w *writer) call() {
	if l := w.calls[w.number]; len(l) > 0 {
		w.emit(codes.Call(l[w.pick(len(l))]))
	}
}
