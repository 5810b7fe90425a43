package asm

import "plumbob/api"

// The registers that some operations take without naming them.
const (
	rax = 0
	rcx = 1
	rdx = 2
	rsp = 4
)

const registers = 16

// place is what stands where a register may.
type place int

const (
	unnamed  place = iota // any number: nobody asks
	register              // any register
	general               // one that is not the stack's
)

// sub is what an instruction's Sub is.
type sub int

const (
	anySub sub = iota // any number: nobody asks
	chunk
	global
	function
	arithmetic
	negation
	extension
	shifting
)

// constant is what an instruction's K is.
type constant int

const (
	anyK   constant = iota // any number: nobody asks
	wide                   // of 64 bits
	short                  // of 32 bits
	offset                 // a byte of the global, or its end
	count                  // of bits
	size                   // of a frame
)

// shape is which of its fields an instruction has, and of what kind they are.
type shape struct {
	name  string
	r, m  place
	sub   sub
	k     constant
	cc, l bool
}

// shapes has them by Op.
var shapes = [...]shape{
	MovR:   {name: "movr", r: general, m: register},
	MovK:   {name: "movk", r: general, k: wide},
	Load:   {name: "load", r: general, m: register, sub: chunk, k: short},
	Store:  {name: "store", r: register, m: register, sub: chunk, k: short},
	Lea:    {name: "lea", r: general, m: register, k: short},
	LeaG:   {name: "leag", r: general, sub: global, k: offset},
	Alu:    {name: "alu", r: general, m: general, sub: arithmetic},
	AluK:   {name: "aluk", r: general, sub: arithmetic, k: short},
	Un:     {name: "un", r: general, sub: negation},
	Ext:    {name: "ext", r: general, m: general, sub: extension},
	Shift:  {name: "shift", r: general, sub: shifting, k: count},
	ShiftC: {name: "shiftc", r: general, sub: shifting},
	Cqo:    {name: "cqo"},
	Idiv:   {name: "idiv", m: general},
	Cmp:    {name: "cmp", r: register, m: general},
	CmpK:   {name: "cmpk", r: register, k: short},
	Set:    {name: "set", r: general, cc: true},
	Jmp:    {name: "jmp", l: true},
	Jcc:    {name: "jcc", cc: true, l: true},
	Label:  {name: "label", l: true},
	Call:   {name: "call", sub: function},
	Ret:    {name: "ret"},
	Enter:  {name: "enter", k: size},
	Leave:  {name: "leave", k: size},
	InI:    {name: "ini"},
	OutI:   {name: "outi"},
}

// shapeOf tells the shape of an Op: one that is none has no name and no fields.
func shapeOf(op int) shape {
	if op < 0 || op >= len(shapes) {
		return shape{}
	}
	return shapes[op]
}

// mayBe tells whether a number may stand there.
func (p place) mayBe(n int) bool {
	return p == unnamed || within(n, registers-1) && (p == register || n != rsp)
}

// mayBe tells whether a Sub is of its kind: which globals and functions there are hangs on the program.
func (s sub) mayBe(n int) bool {
	switch s {
	case chunk:
		return n == 1 || n == 4 || n == 8
	case global, function:
		return n >= 0
	case arithmetic:
		return n == api.Add || n == api.Sub || n == api.Mul || n == api.And || n == api.Or || n == api.Xor
	case negation:
		return n == api.Neg || n == api.Not
	case extension:
		return n == api.Ext8 || n == api.Ext32
	case shifting:
		return n == api.Shl || n == api.Shr
	}
	return true
}

// mayBe tells whether a K is of its kind: how many bytes a global has hangs on the program.
func (c constant) mayBe(k int64) bool {
	switch c {
	case short:
		return int64(int32(k)) == k
	case offset:
		return k >= 0
	case count:
		return within(k, 63)
	case size:
		return within(k, api.MaxSize)
	}
	return true
}
