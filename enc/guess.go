package enc

import (
	"plumbob/api"
	"plumbob/asm"
)

// window is the bytes of an instruction, and what is behind them; behind the code's end they are 0.
type window [longest + 6]byte

// parts is what stands behind a prefix and an opcode, where registers or numbers do.
type parts struct {
	mode    byte
	reg, rm int
	k       int64
}

func partsOf(prefix byte, b []byte) parts {
	p := parts{mode: b[0] & 0xC0, reg: int(b[0]>>3&7 | prefix&4<<1), rm: int(b[0]&7 | prefix&1<<3), k: four(b[1:])}
	if p.mode == inMemory && p.rm&7 == rsp {
		p.k = four(b[2:])
	}
	return p
}

// four reads a number of four bytes.
func four(b []byte) int64 {
	return int64(int32(uint32(b[0]) | uint32(b[1])<<8 | uint32(b[2])<<16 | uint32(b[3])<<24))
}

// guess tells the one instruction that may stand there: no other one has such bytes as are looked at, but whether it has all of them is not asked. Its Op is 0, if none may. What goes on elsewhere has in K how far that is.
func guess(from *window) asm.Ins {
	b, prefix := from[:], byte(0)
	if b[0]&0xF0 == x {
		prefix, b = b[0], b[1:]
	}
	if b[0] == 0x0F {
		return guessSecond(prefix, b[1], b[2:])
	}
	opcode, b := b[0], b[1:]
	if i := guessBare(prefix, opcode, b); i.Op != 0 {
		return i
	}
	p := partsOf(prefix, b)
	switch p.mode {
	case ofPair:
		return guessPair(opcode, p)
	case inMemory:
		return guessAccess(prefix&8 != 0, opcode, p)
	}
	if opcode == 0x8D {
		return asm.Ins{Op: asm.LeaG, R: p.reg, K: p.k}
	}
	return asm.Ins{}
}

// guessBare tells those of which no byte is made up of registers behind the opcode.
func guessBare(prefix, opcode byte, b []byte) asm.Ins {
	switch opcode {
	case 0x99:
		return asm.Ins{Op: asm.Cqo}
	case 0xED:
		return asm.Ins{Op: asm.InI}
	case 0xEF:
		return asm.Ins{Op: asm.OutI}
	case 0xC3:
		return asm.Ins{Op: asm.Ret}
	case 0xE8:
		return asm.Ins{Op: asm.Call, K: four(b)}
	case 0xE9:
		return asm.Ins{Op: asm.Jmp, K: four(b)}
	}
	if opcode&0xF8 == 0xB8 {
		return asm.Ins{Op: wideK, R: int(opcode&7 | prefix&1<<3), K: four(b)&0xFFFFFFFF | four(b[4:])<<32}
	}
	return asm.Ins{}
}

// guessSecond tells those with an opcode of two bytes, by the second one.
func guessSecond(prefix, opcode byte, b []byte) asm.Ins {
	p := partsOf(prefix, b)
	switch {
	case opcode == 0xAF:
		return asm.Ins{Op: asm.Alu, Sub: api.Mul, R: p.reg, M: p.rm}
	case opcode == 0xBE && p.mode == ofPair:
		return asm.Ins{Op: asm.Ext, Sub: api.Ext8, R: p.reg, M: p.rm}
	case opcode == 0xBE:
		return asm.Ins{Op: asm.Load, Sub: 1, R: p.reg, M: p.rm, K: p.k}
	}
	for cc := api.Eq; cc <= api.Ge; cc++ {
		switch opcode {
		case 0x80 | conditions[cc]:
			return asm.Ins{Op: asm.Jcc, Cc: cc, K: four(b)}
		case 0x90 | conditions[cc]:
			return asm.Ins{Op: asm.Set, Cc: cc, R: p.rm}
		}
	}
	return asm.Ins{}
}

// guessAccess tells those of a register and an address.
func guessAccess(isWide bool, opcode byte, p parts) asm.Ins {
	i := asm.Ins{R: p.reg, M: p.rm, K: p.k}
	switch opcode {
	case 0x8B:
		i.Op, i.Sub = asm.Load, 8
	case 0x63:
		i.Op, i.Sub = asm.Load, 4
	case 0x88:
		i.Op, i.Sub = asm.Store, 1
	case 0x89:
		i.Op, i.Sub = asm.Store, 4
		if isWide {
			i.Sub = 8
		}
	case 0x8D:
		i.Op = asm.Lea
	}
	return i
}

// guessPair tells those of two registers, or of a number and a register.
func guessPair(opcode byte, p parts) asm.Ins {
	switch opcode {
	case 0x89:
		return asm.Ins{Op: asm.MovR, R: p.rm, M: p.reg}
	case 0x63:
		return asm.Ins{Op: asm.Ext, Sub: api.Ext32, R: p.reg, M: p.rm}
	case 0xC7:
		return asm.Ins{Op: asm.MovK, R: p.rm, K: p.k}
	case 0x69:
		return asm.Ins{Op: asm.AluK, Sub: api.Mul, R: p.reg, K: p.k}
	case compare:
		return asm.Ins{Op: asm.Cmp, R: p.rm, M: p.reg}
	case 0x81:
		return guessConstant(p)
	case 0xF7:
		return guessUnary(p)
	case 0xC1:
		return asm.Ins{Op: asm.Shift, Sub: guessShift(p.reg), R: p.rm, K: p.k & 0xFF}
	case 0xD3:
		return asm.Ins{Op: asm.ShiftC, Sub: guessShift(p.reg), R: p.rm}
	}
	for sub, has := range opcodes {
		if has == opcode && has != 0 {
			return asm.Ins{Op: asm.Alu, Sub: sub, R: p.rm, M: p.reg}
		}
	}
	return asm.Ins{}
}

// guessConstant tells those of a register and a constant. The stack's is reckoned with by Enter and Leave alone.
func guessConstant(p parts) asm.Ins {
	switch {
	case p.rm == rsp && p.reg == number(opcodes[api.Sub]):
		return asm.Ins{Op: asm.Enter, K: p.k}
	case p.rm == rsp && p.reg == number(opcodes[api.Add]):
		return asm.Ins{Op: asm.Leave, K: p.k}
	case p.reg == number(compare):
		return asm.Ins{Op: asm.CmpK, R: p.rm, K: p.k}
	}
	for sub, opcode := range opcodes {
		if opcode != 0 && number(opcode) == p.reg {
			return asm.Ins{Op: asm.AluK, Sub: sub, R: p.rm, K: p.k}
		}
	}
	return asm.Ins{}
}

func guessUnary(p parts) asm.Ins {
	switch p.reg {
	case int(numbers[api.Not]):
		return asm.Ins{Op: asm.Un, Sub: api.Not, R: p.rm}
	case int(numbers[api.Neg]):
		return asm.Ins{Op: asm.Un, Sub: api.Neg, R: p.rm}
	}
	return asm.Ins{Op: asm.Idiv, M: p.rm}
}

// guessShift tells which shift has a number: if it is none's, the number itself will tell that it is not this one.
func guessShift(n int) int {
	if n == int(numbers[api.Shl]) {
		return api.Shl
	}
	return api.Shr
}
