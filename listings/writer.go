package listings

import (
	"plumbob/api"
	"plumbob/asm"
	"plumbob/codes"
)

// writer makes a function's code.
type writer struct {
	*Maker
	number int
	frame  int // its bytes; 0: none
	code   []asm.Ins
	label  int // the next one
}

// emit writes instructions, or what they are by a slip.
func (w *writer) emit(l ...asm.Ins) {
	for _, i := range l {
		if i.Op != asm.Label && w.chance(w.slips) {
			w.code = append(w.code, w.slip(i)...)
			continue
		}
		w.code = append(w.code, i)
	}
}

// slip is an instruction with another field, twice, or not at all.
func (w *writer) slip(i asm.Ins) []asm.Ins {
	other := i
	switch w.pick(6) {
	case 0:
		return nil
	case 1:
		return []asm.Ins{i, i}
	case 2:
		other.M = w.general()
	case 3:
		if i.Op == asm.Enter || i.Op == asm.Leave {
			other.K += word
			break
		}
		if i.Op != asm.LeaG && i.Op != asm.Shift {
			other.K = i.K/2 + int64(w.pick(40)) - 20
		}
	default:
		other.R = w.general()
	}
	return []asm.Ins{other}
}

// fresh is a label that nothing has.
func (w *writer) fresh() int {
	w.label += 1 + w.pick(7)
	return w.label
}

// general is a register, but the stack's.
func (w *writer) general() int {
	r := w.pick(15)
	if r >= rsp {
		r++
	}
	return r
}

// int is a register that has an Int.
func (w *writer) int() int {
	r := w.general()
	if r == pointer || r == other {
		return 0
	}
	return r
}

// wide is a number at which something turns, or any.
func (w *writer) wide() int64 {
	n := [...]int64{0, 1, 2, 7, 63, 64, 127, 128, 255, 1 << 31, 1<<31 - 1, 1 << 32, 1 << 62, 1<<63 - 1}[w.pick(14)]
	switch w.pick(3) {
	case 0:
		return n
	case 1:
		return -n - 1
	}
	return int64(w.pick(100) - 50)
}

// short is one of 32 bits.
func (w *writer) short() int64 { return int64(int32(w.wide())) }

func (w *writer) condition() int { return api.Eq + w.pick(6) }

func (w *writer) statements(count, depth int) {
	for range count {
		w.statement(depth)
	}
}

func (w *writer) statement(depth int) {
	if w.chance(w.deep) {
		w.emit(codes.Call(w.pick(len(w.calls))))
		return
	}
	switch w.pick(9) {
	case 0:
		w.divide()
	case 1:
		w.access()
	case 2:
		w.compare()
	case 3:
		w.talk()
	case 4:
		w.choose(depth)
	case 5:
		w.repeat(depth)
	case 6:
		w.call()
	default:
		w.emit(w.reckoning())
	}
}

// reckoning is an instruction over Ints that is no division.
func (w *writer) reckoning() asm.Ins {
	arithmetic := [...]int{api.Add, api.Sub, api.Mul, api.And, api.Or, api.Xor}[w.pick(6)]
	shift := [...]int{api.Shl, api.Shr}[w.pick(2)]
	switch w.pick(9) {
	case 0:
		return codes.MovR(w.int(), w.int())
	case 1:
		return codes.MovK(w.int(), w.wide())
	case 2:
		return codes.Lea(w.int(), w.int(), w.short())
	case 3:
		return codes.Alu(arithmetic, w.int(), w.int())
	case 4:
		return codes.AluK(arithmetic, w.int(), w.short())
	case 5:
		return codes.Un(api.Neg+w.pick(2), w.int())
	case 6:
		return codes.Ext(api.Ext8+w.pick(2), w.int(), w.int())
	case 7:
		return codes.Shift(shift, w.int(), int64(w.pick(64)))
	}
	return codes.ShiftC(shift, w.int())
}

// divide divides by what is made one from 1 to 15, or from -15 to -1.
func (w *writer) divide() {
	by := [...]int{1, 3, 5, 8, 11, 15}[w.pick(6)]
	w.emit(codes.AluK(api.And, by, 15), codes.AluK(api.Or, by, 1))
	if w.pick(2) == 0 {
		w.emit(codes.Un(api.Neg, by))
	}
	w.emit(codes.AluK(api.Or, 0, 2), codes.Cqo(), codes.Idiv(by))
}

// compare makes flags of Ints, or of pointers, and asks them.
func (w *writer) compare() {
	condition := w.condition()
	switch w.pick(3) {
	case 0:
		w.emit(codes.Cmp(w.int(), w.int()))
	case 1:
		w.emit(codes.CmpK(w.int(), w.short()))
	case 2:
		_, _ = w.point(pointer), w.point(other)
		condition = api.Eq + w.pick(2)
		w.emit(codes.Cmp(pointer, other))
	}
	w.emit(codes.Set(condition, w.int()))
	if w.pick(2) == 0 {
		w.emit(codes.Set(condition, w.int()))
	}
}

func (w *writer) talk() {
	if w.pick(3) == 0 {
		w.emit(codes.In())
		return
	}
	w.emit(codes.Out())
}
