package asm

import (
	"plumbob/api"
	"plumbob/val"
)

// deed does an instruction that goes straight on.
func (m *machine) deed(i *Ins) bool {
	switch i.Op {
	case Store:
		at, ok := m.Binary(api.Add, m.registers[i.M], val.Of(i.K))
		return ok && m.Store(i.Sub, at, m.registers[i.R])
	case Cmp:
		m.flags = [2]api.Val{m.registers[i.R], m.registers[i.M]}
	case CmpK:
		m.flags = [2]api.Val{m.registers[i.R], val.Of(i.K)}
	case Cqo:
		return m.extend()
	case Idiv:
		return m.divide(m.registers[i.M])
	case InI:
		m.registers[rax] = m.Input()
	case OutI:
		return m.Output(m.registers[rax])
	default:
		v, ok := m.value(i)
		if ok {
			m.registers[i.R] = v
		}
		return ok
	}
	return true
}

// value is what R gets.
func (m *machine) value(i *Ins) (api.Val, bool) {
	r, k := m.registers[i.R], val.Of(i.K)
	switch i.Op {
	case MovR:
		return m.registers[i.M], true
	case MovK:
		return k, true
	case Load:
		at, ok := m.Binary(api.Add, m.registers[i.M], k)
		if !ok {
			return api.Val{}, false
		}
		return m.Load(i.Sub, at)
	case Lea:
		return m.Binary(api.Add, m.registers[i.M], k)
	case LeaG:
		return m.Binary(api.Add, m.pointers[i.Sub], k)
	case Alu:
		return m.Binary(i.Sub, r, m.registers[i.M])
	case AluK, Shift:
		return m.Binary(i.Sub, r, k)
	case Un:
		return m.Unary(i.Sub, r)
	case Ext:
		return m.Unary(i.Sub, m.registers[i.M])
	case ShiftC:
		return m.shift(i.Sub, r)
	}
	return m.Binary(i.Cc, m.flags[0], m.flags[1])
}

// shift shifts by rcx, of which the machine asks the lowest six bits alone.
func (m *machine) shift(op int, v api.Val) (api.Val, bool) {
	by := m.registers[rcx]
	if by.Kind != api.Int {
		return api.Val{}, m.End(api.Stuck)
	}
	return m.Binary(op, v, val.Of(by.N&63))
}

// sign is what rdx has, where it and rax are one number.
func sign(n int64) api.Val {
	if n < 0 {
		return val.Of(-1)
	}
	return val.Of(0)
}

func (m *machine) extend() bool {
	whole := m.registers[rax]
	if whole.Kind != api.Int {
		return m.End(api.Stuck)
	}
	m.registers[rdx] = sign(whole.N)
	return true
}

// divide shows the operands of a division ahead of all that may be wrong with it, but that they are no Ints.
func (m *machine) divide(by api.Val) bool {
	whole := m.registers[rax]
	if whole.Kind != api.Int || by.Kind != api.Int {
		return m.End(api.Stuck)
	}
	m.Show(api.Divide, whole.N, by.N)
	quotient, ok := val.Bin(api.Div, whole, by)
	if !ok || m.registers[rdx] != sign(whole.N) {
		return m.End(api.Stuck)
	}
	m.registers[rax] = quotient
	m.registers[rdx], ok = val.Bin(api.Mod, whole, by)
	return ok
}
