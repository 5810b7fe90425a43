package graphs

import (
	"plumbob/api"
	"plumbob/rtl"
)

// deepest is how deep choices and loops stand within one another.
const deepest = 3

func (w *writer) statements(count, depth int) {
	for range count {
		w.statement(depth)
	}
}

func (w *writer) statement(depth int) {
	if w.again > 0 && len(w.reckoned) > 0 && w.pick(w.again) == 0 {
		w.repeat()
		return
	}
	switch w.pick(18) {
	case 0:
		w.point(w.aPointer())
	case 1:
		w.emit(rtl.Instr{Op: rtl.Copy, A: w.aPointer(), D: w.aPointer()})
	case 2, 3:
		w.load()
	case 4, 5:
		w.store()
	case 6:
		w.emit(rtl.Instr{Op: rtl.Out, A: w.anInt()})
	case 7, 8, 9:
		w.call()
	case 10:
		w.emit(rtl.Instr{Op: rtl.Nop})
	case 11, 12:
		w.choice(depth)
	case 13:
		w.loop(depth)
	default:
		w.reckon(w.operation())
	}
}

func (w *writer) load() {
	chunk := w.chunk()
	w.reckon(rtl.Instr{Op: rtl.Load, Sub: chunk, A: w.aPointer(), K: w.offset(chunk), D: w.anInt()})
}

func (w *writer) store() {
	chunk := w.chunk()
	b := w.anInt()
	if w.slip() {
		b = w.aPointer()
	}
	w.emit(rtl.Instr{Op: rtl.Store, Sub: chunk, A: w.aPointer(), B: b, K: w.offset(chunk)})
}

func (w *writer) chunk() int { return [...]int{1, 4, 8}[w.pick(3)] }

// offset is one at which an access of so many bytes is right.
func (w *writer) offset(chunk int) int64 {
	if w.slip() {
		return w.number()
	}
	return int64(chunk * w.pick((least-cell)/chunk))
}

func (w *writer) call() {
	if w.slip() {
		w.callOf(w.pick(len(w.heads)))
	} else if len(w.head.calls) > 0 {
		w.callOf(w.head.calls[w.pick(len(w.head.calls))])
	}
}

func (w *writer) callOf(number int) {
	h := w.heads[number]
	i := rtl.Instr{Op: rtl.Call, Sub: number, D: none}
	for range h.ints {
		i.Args = append(i.Args, w.anInt())
	}
	for range h.pointers {
		i.Args = append(i.Args, w.aPointer())
	}
	if h.answers && w.pick(4) > 0 || w.slip() {
		i.D = w.anInt()
	}
	w.emit(i)
}

func (w *writer) choice(depth int) {
	if depth >= deepest {
		return
	}
	at := w.emit(w.comparison())
	w.statements(w.pick(4), depth+1)
	if w.pick(6) == 0 {
		w.end()
	}
	over := w.emit(rtl.Instr{Op: rtl.Nop})
	w.function.Code[at].T = w.here()
	w.statements(w.pick(3), depth+1)
	w.function.Code[over].S = w.here()
}

// loop writes one that ends: nothing within it writes its counter, but by a slip.
func (w *writer) loop(depth int) {
	if depth >= deepest || len(w.counters) == 0 {
		return
	}
	counter := w.counters[0]
	w.counters = w.counters[1:]
	w.emit(rtl.Instr{Op: rtl.Const, K: int64(w.pick(4)), D: counter})
	head := w.emit(rtl.Instr{Op: rtl.Cond, Sub: api.Gt, A: counter, B: none})
	w.statements(w.pick(4), depth+1)
	back := w.emit(rtl.Instr{Op: rtl.Bin, Sub: api.Sub, A: counter, B: none, K: 1, D: counter})
	w.function.Code[back].S = head
	w.function.Code[head].T = w.here()
	w.counters = append(w.counters, counter)
}
