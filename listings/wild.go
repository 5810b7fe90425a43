package listings

import (
	"plumbob/api"
	"plumbob/asm"
	"plumbob/codes"
)

// Wild makes a program that is well formed, of any instructions: what it does has mostly no meaning. Many of its labels are beside one another.
func Wild(pick func(int) int) asm.Prog {
	m := New(pick, 0)
	m.made = asm.Prog{Params: pick(api.MaxParams + 1)}
	for range 1 + pick(3) {
		m.made.Globals = append(m.made.Globals, pick(40))
	}
	count := 1 + pick(3)
	m.made.Main = pick(count)
	m.calls = make([][]int, count)
	for number := range count {
		m.made.Funcs = append(m.made.Funcs, asm.Func{Name: "w", Code: m.wild(number)})
	}
	return m.made
}

// wild makes a function's code: labels stand at any places.
func (m *Maker) wild(number int) []asm.Ins {
	w := &writer{Maker: m, number: number}
	var labels []int
	for range 1 + m.pick(5) {
		labels = append(labels, w.fresh())
	}
	for range 1 + m.pick(25) {
		w.code = append(w.code, w.any(labels))
	}
	for _, l := range labels {
		at := m.pick(len(w.code) + 1)
		w.code = append(w.code[:at], append([]asm.Ins{codes.Label(l)}, w.code[at:]...)...)
	}
	return w.code
}

// any is one instruction of any kind.
func (w *writer) any(labels []int) asm.Ins {
	label := labels[w.pick(len(labels))]
	chunk := [...]int{1, 4, 8}[w.pick(3)]
	global := w.pick(len(w.made.Globals))
	switch w.pick(18) {
	case 0, 1:
		return codes.Jmp(label)
	case 2, 3:
		return codes.Jcc(w.condition(), label)
	case 4:
		return codes.MovR(w.general(), w.pick(16))
	case 5:
		return codes.Load(chunk, w.general(), w.pick(16), w.short())
	case 6:
		return codes.Store(chunk, w.pick(16), w.short(), w.pick(16))
	case 7:
		return codes.Lea(w.general(), w.pick(16), w.short())
	case 8:
		return codes.LeaG(w.general(), global, int64(w.pick(w.made.Globals[global]+1)))
	case 9:
		return codes.Cmp(w.pick(16), w.general())
	case 10:
		return codes.CmpK(w.pick(16), w.short())
	case 11:
		return codes.Set(w.condition(), w.general())
	case 12:
		return w.bare()
	case 13:
		return codes.Idiv(w.general())
	case 14:
		return codes.Call(w.pick(len(w.calls)))
	case 15:
		return [...]asm.Ins{codes.Enter(int64(w.pick(4) * 16)), codes.Leave(int64(w.pick(4) * 16))}[w.pick(2)]
	}
	return w.reckoning()
}

// bare is one without fields.
func (w *writer) bare() asm.Ins {
	return [...]asm.Ins{codes.Cqo(), codes.Ret(), codes.In(), codes.Out()}[w.pick(4)]
}

// Broken makes a program of instructions whose fields hold any numbers, many of them at the edges of what may be.
func Broken(pick func(int) int) asm.Prog {
	number := func() int {
		return [...]int{-1 << 63, -1 << 31, -1, 0, 0, 0, 1, 2, 4, 8, 11, 15, 16, 21, 26, 27, 64, 1 << 31, 1<<63 - 1}[pick(19)]
	}
	p := asm.Prog{Main: pick(3) - 1, Params: pick(9) - 1}
	for range pick(3) {
		p.Globals = append(p.Globals, number())
	}
	for range pick(3) {
		var f asm.Func
		for range pick(6) {
			f.Code = append(f.Code, asm.Ins{Op: pick(29) - 1, R: number(), M: number(), Sub: number(), Cc: number(), L: number(), K: int64(number())})
		}
		p.Funcs = append(p.Funcs, f)
	}
	return p
}
