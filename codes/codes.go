// Package codes has the instructions of x86-64 code (chapter 20), by what the table of that chapter names of each.
package codes

import "plumbob/asm"

// MovR gives r what m has.
func MovR(r, m int) asm.Ins { return asm.Ins{Op: asm.MovR, R: r, M: m} }

// MovK gives r a number.
func MovK(r int, k int64) asm.Ins { return asm.Ins{Op: asm.MovK, R: r, K: k} }

// Load gives r so many bytes behind where m points.
func Load(chunk, r, m int, k int64) asm.Ins {
	return asm.Ins{Op: asm.Load, Sub: chunk, R: r, M: m, K: k}
}

// Store lays r into so many bytes there.
func Store(chunk, m int, k int64, r int) asm.Ins {
	return asm.Ins{Op: asm.Store, Sub: chunk, R: r, M: m, K: k}
}

// Lea gives r what m has and a number more.
func Lea(r, m int, k int64) asm.Ins { return asm.Ins{Op: asm.Lea, R: r, M: m, K: k} }

// LeaG points r to a byte of a global.
func LeaG(r, global int, k int64) asm.Ins {
	return asm.Ins{Op: asm.LeaG, R: r, Sub: global, K: k}
}

// Alu reckons with r and m, into r.
func Alu(op, r, m int) asm.Ins { return asm.Ins{Op: asm.Alu, Sub: op, R: r, M: m} }

// AluK reckons with r and a number.
func AluK(op, r int, k int64) asm.Ins { return asm.Ins{Op: asm.AluK, Sub: op, R: r, K: k} }

// Un reckons with r alone.
func Un(op, r int) asm.Ins { return asm.Ins{Op: asm.Un, Sub: op, R: r} }

// Ext gives r the lowest bits of m, with their sign.
func Ext(op, r, m int) asm.Ins { return asm.Ins{Op: asm.Ext, Sub: op, R: r, M: m} }

// Shift shifts r by a number.
func Shift(op, r int, k int64) asm.Ins { return asm.Ins{Op: asm.Shift, Sub: op, R: r, K: k} }

// ShiftC shifts r by rcx.
func ShiftC(op, r int) asm.Ins { return asm.Ins{Op: asm.ShiftC, Sub: op, R: r} }

// Cqo gives rdx the sign of rax.
func Cqo() asm.Ins { return asm.Ins{Op: asm.Cqo} }

// Idiv divides rax by m.
func Idiv(m int) asm.Ins { return asm.Ins{Op: asm.Idiv, M: m} }

// Cmp makes the flags r and m.
func Cmp(r, m int) asm.Ins { return asm.Ins{Op: asm.Cmp, R: r, M: m} }

// CmpK makes them r and a number.
func CmpK(r int, k int64) asm.Ins { return asm.Ins{Op: asm.CmpK, R: r, K: k} }

// Set gives r a truth of the flags.
func Set(cc, r int) asm.Ins { return asm.Ins{Op: asm.Set, Cc: cc, R: r} }

// Jmp goes on at a label.
func Jmp(l int) asm.Ins { return asm.Ins{Op: asm.Jmp, L: l} }

// Jcc goes on there, if that of the flags is true.
func Jcc(cc, l int) asm.Ins { return asm.Ins{Op: asm.Jcc, Cc: cc, L: l} }

// Label is one.
func Label(l int) asm.Ins { return asm.Ins{Op: asm.Label, L: l} }

// Call calls a function.
func Call(function int) asm.Ins { return asm.Ins{Op: asm.Call, Sub: function} }

// Ret goes back.
func Ret() asm.Ins { return asm.Ins{Op: asm.Ret} }

// Enter makes a frame.
func Enter(k int64) asm.Ins { return asm.Ins{Op: asm.Enter, K: k} }

// Leave frees it.
func Leave(k int64) asm.Ins { return asm.Ins{Op: asm.Leave, K: k} }

// In takes what comes in.
func In() asm.Ins { return asm.Ins{Op: asm.InI} }

// Out lets rax go out.
func Out() asm.Ins { return asm.Ins{Op: asm.OutI} }
