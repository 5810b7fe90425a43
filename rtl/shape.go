package rtl

// none stands where an instruction has no register.
const none = -1

// place is what stands where a register may.
type place int

const (
	unnamed  place = iota // any number: nobody asks
	needed                // a register
	optional              // a register, or none
)

// isRegister tells whether what stands there is a register that is read or written.
func (p place) isRegister(r int) bool { return p != unnamed && r != none }

// lacks tells whether a register that must be there is none.
func (p place) lacks(r int) bool { return p == needed && r == none }

// sub is what an instruction's Sub is.
type sub int

const (
	anySub sub = iota // any number: nobody asks
	unary
	binary
	comparison
	chunk
	global
	function
)

// shape is which of its fields an instruction has, and of what kind they are.
type shape struct {
	name    string
	sub     sub
	a, b, d place
	k, args bool
	s, t    bool
}

// shapes has them by Op.
var shapes = [...]shape{
	Nop:    {name: "nop", s: true},
	Const:  {name: "const", d: needed, k: true, s: true},
	Copy:   {name: "copy", a: needed, d: needed, s: true},
	Un:     {name: "un", sub: unary, a: needed, d: needed, s: true},
	Bin:    {name: "bin", sub: binary, a: needed, b: optional, d: needed, k: true, s: true},
	Load:   {name: "load", sub: chunk, a: needed, d: needed, k: true, s: true},
	Store:  {name: "store", sub: chunk, a: needed, b: needed, k: true, s: true},
	Global: {name: "global", sub: global, d: needed, k: true, s: true},
	Frame:  {name: "frame", d: needed, k: true, s: true},
	Call:   {name: "call", sub: function, d: optional, args: true, s: true},
	Cond:   {name: "cond", sub: comparison, a: needed, b: optional, k: true, s: true, t: true},
	Return: {name: "return", a: optional},
	In:     {name: "in", d: needed, s: true},
	Out:    {name: "out", a: needed, s: true},
}

// shapeOf tells the shape of an Op: one that is none has no name and no fields.
func shapeOf(op int) shape {
	if op < 0 || op >= len(shapes) {
		return shape{}
	}
	return shapes[op]
}

// renamed is an instruction of this shape over other registers, with the fields that are asked.
func (s shape) renamed(i Instr, at func(int) int) Instr {
	made := Instr{Op: i.Op, A: s.a.renamed(i.A, at), B: s.b.renamed(i.B, at), D: s.d.renamed(i.D, at)}
	if s.sub != anySub {
		made.Sub = i.Sub
	}
	if s.k && (s.b != optional || i.B == none) {
		made.K = i.K
	}
	if s.args {
		for _, r := range i.Args {
			made.Args = append(made.Args, at(r))
		}
	}
	if s.s {
		made.S = i.S
	}
	if s.t {
		made.T = i.T
	}
	return made
}

// renamed is another register, or none; 0, where nobody asks.
func (p place) renamed(r int, at func(int) int) int {
	switch {
	case p.isRegister(r):
		return at(r)
	case p == unnamed:
		return 0
	}
	return r
}
