package graphs

import (
	"strconv"

	"plumbob/api"
	"plumbob/rtl"
)

// none stands where an instruction has no register.
const none = -1

// writer is a function under way.
type writer struct {
	*Maker
	head     head
	function rtl.Func
	ints     []int
	pointers []int
	counters []int // of the loops that may still be begun within one another
	reckoned []rtl.Instr
}

func (m *Maker) function(number int) rtl.Func {
	h := m.heads[number]
	ints, pointers, counters := h.ints+1+m.pick(4), h.pointers+1+m.pick(2), 2
	names := m.shuffled(ints + pointers + counters)
	w := &writer{Maker: m, head: h, ints: names[:ints], pointers: names[ints : ints+pointers], counters: names[ints+pointers:]}
	w.function = rtl.Func{Name: "f" + strconv.Itoa(number), Regs: len(names) + m.pick(3), Frame: m.frame()}
	w.function.Params = append(append([]int{}, w.ints[:h.ints]...), w.pointers[:h.pointers]...)
	w.begin()
	w.statements(m.pick(12), 0)
	w.end()
	w.strangers()
	w.mix()
	return w.function
}

func (m *Maker) frame() int {
	if m.pick(3) == 0 {
		return 0
	}
	return m.size()
}

// emit writes an instruction that goes on at the one behind it, and tells its node.
func (w *writer) emit(i rtl.Instr) int {
	at := w.here()
	i.S = at + 1
	w.function.Code = append(w.function.Code, i)
	return at
}

// here is the node that is written next.
func (w *writer) here() int { return len(w.function.Code) }

// begin gives each register, and each byte of the frame, a value.
func (w *writer) begin() {
	for _, d := range w.ints[w.head.ints:] {
		if !w.slip() {
			w.emit(w.source(d))
		}
	}
	for _, d := range w.pointers[w.head.pointers:] {
		if !w.slip() {
			w.point(d)
		}
	}
	if w.function.Frame == 0 {
		return
	}
	w.emit(rtl.Instr{Op: rtl.Frame, D: w.pointers[0]})
	for at := 0; at+cell <= w.function.Frame; at += cell {
		if !w.slip() {
			w.emit(rtl.Instr{Op: rtl.Store, Sub: cell, A: w.pointers[0], B: w.ints[0], K: int64(at)})
		}
	}
}

// source is an Int from outside.
func (w *writer) source(d int) rtl.Instr {
	if w.pick(4) == 0 {
		return rtl.Instr{Op: rtl.In, D: d}
	}
	return rtl.Instr{Op: rtl.Const, K: w.constant(), D: d}
}

// point gives a register a pointer from which as many bytes can be reached as an access asks.
func (w *writer) point(d int) {
	global := w.pick(len(w.made.Globals))
	i := rtl.Instr{Op: rtl.Global, Sub: global, D: d}
	most := w.made.Globals[global]
	if w.function.Frame > 0 && w.pick(2) == 0 {
		i, most = rtl.Instr{Op: rtl.Frame, D: d}, w.function.Frame
	}
	if w.slip() {
		i.K = int64(w.pick(most + 1))
	} else if most >= least {
		i.K = int64(cell * w.pick(2))
	}
	w.reckon(i)
}

// reckon writes an instruction that may be written again, with another D.
func (w *writer) reckon(i rtl.Instr) {
	w.emit(i)
	w.reckoned = append(w.reckoned, i)
}

// repeat writes one again: mostly one of the last.
func (w *writer) repeat() {
	last := len(w.reckoned)
	if w.pick(4) > 0 {
		last = min(last, 5)
	}
	i := w.reckoned[len(w.reckoned)-1-w.pick(last)]
	switch i.Op {
	case rtl.Global, rtl.Frame:
		i.D = w.aPointer()
	default:
		i.D = w.anInt()
	}
	w.emit(i)
}

// end writes what the function answers.
func (w *writer) end() {
	a := w.anInt()
	if !w.head.answers {
		a = none
	}
	w.emit(rtl.Instr{Op: rtl.Return, A: a})
}

// strangers writes nodes that none of the others goes on at.
func (w *writer) strangers() {
	for range w.pick(3) {
		at := w.emit(w.operation())
		w.function.Code[at].S = w.pick(at + 1)
	}
}

// mix gives the nodes other numbers.
func (w *writer) mix() {
	numbers := w.shuffled(w.here())
	code := make([]rtl.Instr, w.here())
	for at, i := range w.function.Code {
		if i.Op != rtl.Return {
			i.S = numbers[i.S]
		}
		if i.Op == rtl.Cond {
			i.T = numbers[i.T]
		}
		code[numbers[at]] = i
	}
	w.function.Code = code
	w.function.Entry = numbers[0]
}

func (w *writer) of(l []int) int {
	if w.slip() {
		return w.pick(w.function.Regs)
	}
	return l[w.pick(len(l))]
}

func (w *writer) anInt() int    { return w.of(w.ints) }
func (w *writer) aPointer() int { return w.of(w.pointers) }

// constant is an Int that is often small, so that comparisons go either way.
func (w *writer) constant() int64 {
	if w.pick(2) == 0 {
		return int64(w.pick(7)) - 3
	}
	return w.number()
}

// operation is one on Ints that has a meaning whatever they are.
func (w *writer) operation() rtl.Instr {
	a, d := w.anInt(), w.anInt()
	switch w.pick(8) {
	case 0:
		return w.source(d)
	case 1:
		return rtl.Instr{Op: rtl.Copy, A: a, D: d}
	case 2:
		return rtl.Instr{Op: rtl.Un, Sub: api.Neg + w.pick(4), A: a, D: d}
	case 3:
		return rtl.Instr{Op: rtl.Bin, Sub: api.Shl + w.pick(2), A: a, B: none, K: int64(w.pick(64)), D: d}
	case 4:
		return w.division(a, d)
	}
	i := rtl.Instr{Op: rtl.Bin, Sub: w.total(), A: a, B: none, K: w.constant(), D: d}
	if w.pick(2) == 0 {
		i.B, i.K = w.anInt(), 0
	}
	return i
}

// total is an operation that is there for any two Ints.
func (w *writer) total() int {
	l := [...]int{api.Add, api.Sub, api.Mul, api.And, api.Or, api.Xor, api.Eq, api.Ne, api.Lt, api.Le, api.Gt, api.Ge}
	return l[w.pick(len(l))]
}

func (w *writer) division(a, d int) rtl.Instr {
	i := rtl.Instr{Op: rtl.Bin, Sub: api.Div + w.pick(2), A: a, B: none, K: 2 + int64(w.pick(9)), D: d}
	if w.slip() {
		i.B = w.anInt()
	}
	return i
}

// comparison is a branch.
func (w *writer) comparison() rtl.Instr {
	i := rtl.Instr{Op: rtl.Cond, Sub: api.Eq + w.pick(6), A: w.anInt(), B: none, K: w.constant()}
	switch w.pick(6) {
	case 0, 1:
		i.B, i.K = w.anInt(), 0
	case 2:
		i.Sub, i.A, i.K = api.Eq+w.pick(2), w.aPointer(), 0
	case 3:
		i.Sub, i.A, i.B, i.K = api.Eq+w.pick(2), w.aPointer(), w.aPointer(), 0
	}
	return i
}
