// Package listings makes programs of x86-64 code for tests: well formed, of every kind, by choices that are handed in.
package listings

import (
	"plumbob/api"
	"plumbob/asm"
	"plumbob/codes"
)

const (
	word  = 8
	least = 4 * word // bytes that each global has, and each frame, if there is one
)

// The registers by what they have: all others have Ints, wherever something reads them.
const (
	rsp     = 4
	pointer = 12 // points to a global or a frame, where it is used
	other   = 13
)

// Maker makes programs.
type Maker struct {
	pick  func(int) int // tells a number below the one that it is given
	slips int           // one of so many instructions is another one; 0: none
	deep  int           // one of so many statements is a call that may come back to its own function; 0: none
	made  asm.Prog
	calls [][]int // of each function those that it may call
}

// New begins.
func New(pick func(int) int, slips int) *Maker { return &Maker{pick: pick, slips: slips} }

// Deep has one of so many statements call any function.
func (m *Maker) Deep(every int) *Maker {
	m.deep = every
	return m
}

// chance is one of so many; never, if that is 0.
func (m *Maker) chance(many int) bool { return many > 0 && m.pick(many) == 0 }

// Program makes one.
func (m *Maker) Program() asm.Prog {
	m.made = asm.Prog{Params: m.pick(api.MaxParams + 1)}
	for range 1 + m.pick(3) {
		m.made.Globals = append(m.made.Globals, m.size())
	}
	order := m.shuffled(1 + m.pick(4))
	m.made.Main = order[0]
	m.calls = make([][]int, len(order))
	for i, number := range order {
		m.calls[number] = order[i+1:]
	}
	for number := range order {
		m.made.Funcs = append(m.made.Funcs, asm.Func{Name: string(rune('f' + number)), Code: m.code(number)})
	}
	return m.made
}

func (m *Maker) size() int { return least + m.pick(5)*word/2 }

// shuffled tells the numbers below one, in some order.
func (m *Maker) shuffled(count int) []int {
	l := make([]int, count)
	for i := range l {
		at := m.pick(i + 1)
		l[i] = l[at]
		l[at] = i
	}
	return l
}

// code makes a function's.
func (m *Maker) code(number int) []asm.Ins {
	w := &writer{Maker: m, number: number, label: m.pick(10)}
	if m.pick(4) > 0 {
		w.frame = m.size()
	}
	if number == m.made.Main {
		w.fill()
	}
	w.enter()
	w.statements(2+m.pick(6), 2)
	if w.frame > 0 {
		w.emit(codes.Leave(int64(w.frame)))
	}
	w.emit(codes.Ret())
	return w.code
}

// fill gives all registers Ints that main's caller has given nothing.
func (w *writer) fill() {
	given := []int{7, 6, 2, 1, 8, 9}[:w.made.Params]
	for r := range 16 {
		isGiven := r == rsp
		for _, g := range given {
			isGiven = isGiven || g == r
		}
		if !isGiven {
			w.emit(codes.MovK(r, w.wide()))
		}
	}
}

// enter makes the frame, and fills its words but the first one, which has a pointer.
func (w *writer) enter() {
	if w.frame == 0 {
		return
	}
	w.emit(codes.Enter(int64(w.frame)))
	for at := word; at+word <= w.frame; at += word {
		w.emit(codes.Store(word, rsp, int64(at), w.int()))
	}
	if w.frame%word > 0 {
		w.emit(codes.Store(word/2, rsp, int64(w.frame-word/2), w.int()))
	}
	w.emit(codes.Store(word, rsp, 0, rsp))
}
