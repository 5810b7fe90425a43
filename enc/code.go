package enc

import (
	"plumbob/api"
	"plumbob/asm"
)

// The prefixes ahead of an opcode: of 64 bits, and of fewer.
const (
	w = 0x48
	x = 0x40
)

// The modes of what stands behind an opcode.
const (
	ofGlobal = 0x00
	inMemory = 0x80
	ofPair   = 0xC0
)

// wideK is MovK with a constant of 64 bits: its bytes are so unlike that it has an Op of its own here.
const wideK = asm.OutI + 1

const rsp = 4

// opcodes has those of Alu, by Sub. Their upper bits are the numbers of AluK; those of compare are CmpK's.
var opcodes = [...]byte{api.Add: 0x01, api.Sub: 0x29, api.And: 0x21, api.Or: 0x09, api.Xor: 0x31}

const compare = 0x39

// numbers has those of Un and of shifts, by Sub.
var numbers = [...]byte{api.Neg: 3, api.Not: 2, api.Shl: 4, api.Shr: 7}

// conditions has what is or-ed to an opcode, by Cc.
var conditions = [...]byte{api.Eq: 0x4, api.Ne: 0x5, api.Lt: 0xC, api.Le: 0xE, api.Gt: 0xF, api.Ge: 0xD}

// code is bytes, behind which more are laid.
type code []byte

// instruction lays one. What goes on elsewhere has in K how far that is.
func (c code) instruction(i *asm.Ins) code {
	switch i.Op {
	case asm.MovR:
		return c.pair(w, i.M, i.R, 0x89)
	case asm.MovK:
		return c.pair(w, 0, i.R, 0xC7).four(i.K)
	case wideK:
		return append(c, w|high(i.R), 0xB8|low(i.R)).four(i.K).four(i.K >> 32)
	case asm.Load:
		return c.load(i)
	case asm.Store:
		return c.store(i)
	case asm.Lea:
		return c.memory(w, i.R, i.M, i.K, 0x8D)
	case asm.LeaG:
		return c.operands(w, ofGlobal, i.R, 5, 0x8D).four(i.K)
	case asm.Cqo:
		return append(c, w, 0x99)
	case asm.InI:
		return append(c, w, 0xED)
	case asm.OutI:
		return append(c, w, 0xEF)
	case asm.Jmp:
		return append(c, 0xE9).four(i.K)
	case asm.Jcc:
		return append(c, 0x0F, 0x80|conditions[i.Cc]).four(i.K)
	case asm.Call:
		return append(c, 0xE8).four(i.K)
	case asm.Ret:
		return append(c, 0xC3)
	case asm.Enter:
		return append(c, w, 0x81, 0xEC).four(i.K)
	case asm.Leave:
		return append(c, w, 0x81, 0xC4).four(i.K)
	}
	return c.reckoning(i)
}

// reckoning lays one that reckons, or compares; of a Label there are no bytes.
func (c code) reckoning(i *asm.Ins) code {
	switch i.Op {
	case asm.Alu:
		if i.Sub == api.Mul {
			return c.pair(w, i.R, i.M, 0x0F, 0xAF)
		}
		return c.pair(w, i.M, i.R, opcodes[i.Sub])
	case asm.AluK:
		if i.Sub == api.Mul {
			return c.pair(w, i.R, i.R, 0x69).four(i.K)
		}
		return c.pair(w, number(opcodes[i.Sub]), i.R, 0x81).four(i.K)
	case asm.Un:
		return c.pair(w, int(numbers[i.Sub]), i.R, 0xF7)
	case asm.Ext:
		if i.Sub == api.Ext8 {
			return c.pair(w, i.R, i.M, 0x0F, 0xBE)
		}
		return c.pair(w, i.R, i.M, 0x63)
	case asm.Shift:
		return append(c.pair(w, int(numbers[i.Sub]), i.R, 0xC1), byte(i.K))
	case asm.ShiftC:
		return c.pair(w, int(numbers[i.Sub]), i.R, 0xD3)
	case asm.Idiv:
		return c.pair(w, 7, i.M, 0xF7)
	case asm.Cmp:
		return c.pair(w, i.M, i.R, compare)
	case asm.CmpK:
		return c.pair(w, number(compare), i.R, 0x81).four(i.K)
	case asm.Set:
		return c.pair(x, 0, i.R, 0x0F, 0x90|conditions[i.Cc]).pair(w, i.R, i.R, 0x0F, 0xB6)
	}
	return c
}

func (c code) load(i *asm.Ins) code {
	switch i.Sub {
	case 8:
		return c.memory(w, i.R, i.M, i.K, 0x8B)
	case 4:
		return c.memory(w, i.R, i.M, i.K, 0x63)
	}
	return c.memory(w, i.R, i.M, i.K, 0x0F, 0xBE)
}

func (c code) store(i *asm.Ins) code {
	switch i.Sub {
	case 8:
		return c.memory(w, i.R, i.M, i.K, 0x89)
	case 4:
		return c.memory(x, i.R, i.M, i.K, 0x89)
	}
	return c.memory(x, i.R, i.M, i.K, 0x88)
}

// number tells the one that AluK and CmpK have in the place of such an opcode.
func number(opcode byte) int { return int(opcode >> 3) }

// high tells the bit of a register that stands in a prefix; low those that stand behind the opcode.
func high(register int) byte { return byte(register >> 3) }

func low(register int) byte { return byte(register & 7) }

// pair lays an opcode of two registers, or of a number and a register.
func (c code) pair(prefix byte, reg, rm int, opcode ...byte) code {
	return c.operands(prefix, ofPair, reg, rm, opcode...)
}

// memory lays one of a register and an address.
func (c code) memory(prefix byte, reg, m int, k int64, opcode ...byte) code {
	c = c.operands(prefix, inMemory, reg, m, opcode...)
	if low(m) == rsp {
		c = append(c, 0x24)
	}
	return c.four(k)
}

func (c code) operands(prefix, mode byte, reg, rm int, opcode ...byte) code {
	c = append(c, prefix|high(reg)<<2|high(rm))
	c = append(c, opcode...)
	return append(c, mode|low(reg)<<3|low(rm))
}

// four lays a number into four bytes, the lowest one first.
func (c code) four(n int64) code {
	return append(c, byte(n), byte(n>>8), byte(n>>16), byte(n>>24))
}

// aim lets the last instruction, whose last four bytes say that, go on at an offset.
func (c code) aim(goal int) { c[:len(c)-4].four(int64(goal - len(c))) }
