package enc

import (
	"strconv"

	"plumbob/asm"
)

// hasFunctions tells whether functions start one behind the other, the first one where the code does, and main is one.
func (m *Image) hasFunctions() bool {
	least := 0
	for n, start := range m.Starts {
		if start < least || start >= len(m.Code) || n == 0 && start > 0 {
			return false
		}
		least = start + 1
	}
	return m.Main >= 0 && m.Main < len(m.Starts)
}

// lifted has all functions, if their bytes are such.
func (r *reader) lifted() ([]asm.Func, bool) {
	functions := make([]asm.Func, len(r.Starts))
	for n, start := range r.Starts {
		end := len(r.Code)
		if n+1 < len(r.Starts) {
			end = r.Starts[n+1]
		}
		code, ok := r.lift(start, end)
		if !ok {
			return nil, false
		}
		functions[n] = asm.Func{Name: "f" + strconv.Itoa(n), Code: code}
	}
	return functions, true
}

// mark is what is at an offset of a function.
type mark byte

const (
	nothing mark = iota // no instruction begins there
	begun               // one does, or it is the end
	sought              // likewise, and one goes on there
)

// lift has a function's instructions, with a Label wherever one goes on.
func (r *reader) lift(start, end int) ([]asm.Ins, bool) {
	marks, count, ok := r.marks(start, end)
	if !ok {
		return nil, false
	}
	code := make([]asm.Ins, 0, count)
	label := func(at int) {
		if marks[at-start] == sought {
			code = append(code, asm.Ins{Op: asm.Label, L: at})
		}
	}
	for e, i := range r.each(start, end) {
		label(e.from)
		code = append(code, i)
	}
	label(end)
	return code, true
}

// marks tells them from a function's start to its end, and how many instructions and Labels it has.
func (r *reader) marks(start, end int) ([]mark, int, bool) {
	marks, count, last := make([]mark, end-start+1), 0, start
	var goals []int
	for e, i := range r.each(start, end) {
		marks[e.from-start] = begun
		count++
		if i.Op == asm.Jmp || i.Op == asm.Jcc {
			goals = append(goals, i.L)
		}
		last = e.to
	}
	if last != end {
		return nil, 0, false
	}
	marks[end-start] = begun
	for _, goal := range goals {
		if goal < start || goal > end || marks[goal-start] == nothing {
			return nil, 0, false
		}
		if marks[goal-start] == begun {
			marks[goal-start] = sought
			count++
		}
	}
	return marks, count, true
}
