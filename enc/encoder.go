package enc

import "plumbob/asm"

// maxCode is how many bytes there may be.
const maxCode = 8388608

// longest is how many bytes an instruction has at most.
const longest = 10

// encoder lays functions, one behind the other.
type encoder struct {
	starts []int
	places []place
	code   code
}

// formed is an instruction with the Op that its bytes have.
func formed(i asm.Ins) asm.Ins {
	if i.Op == asm.MovK && int64(int32(i.K)) != i.K {
		i.Op = wideK
	}
	return i
}

// sizeOf tells how many bytes an instruction has: that does not hang on where it stands.
func sizeOf(i asm.Ins) int {
	var room [longest]byte
	i = formed(i)
	return len(code(room[:0]).instruction(&i))
}

// startsOf tells the offsets of functions, and how many bytes there are.
func startsOf(functions []asm.Func) ([]int, int) {
	starts, size := make([]int, len(functions)), 0
	for n, f := range functions {
		starts[n] = size
		for _, i := range f.Code {
			size += sizeOf(i)
		}
	}
	return starts, size
}

// labelsOf tells the offsets of a function's Labels.
func labelsOf(code []asm.Ins, at int) map[int]int {
	labels := map[int]int{}
	for _, i := range code {
		if i.Op == asm.Label {
			labels[i.L] = at
		}
		at += sizeOf(i)
	}
	return labels
}

func (e *encoder) function(code []asm.Ins) {
	labels := labelsOf(code, len(e.code))
	for _, i := range code {
		i = formed(i)
		e.code = e.code.instruction(&i)
		switch i.Op {
		case asm.Jmp, asm.Jcc:
			e.code.aim(labels[i.L])
		case asm.Call:
			e.code.aim(e.starts[i.Sub])
		case asm.LeaG:
			e.code.aim(e.places[i.Sub].low() + int(i.K))
		}
	}
}
