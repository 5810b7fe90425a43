package rtl

import (
	"slices"

	"plumbob/api"
)

// How much of one function there may be.
const (
	maxNodes     = 5000
	maxRegisters = 5000
)

// within tells whether a number is from 0 to the most.
func within[N int | int64](n, most N) bool { return n >= 0 && n <= most }

// hasGlobals tells whether there are no more globals than there may be, all of sizes that may be.
func (p *Prog) hasGlobals() bool {
	for _, size := range p.Globals {
		if !within(size, api.MaxSize) {
			return false
		}
	}
	return len(p.Globals) <= api.MaxVars
}

// hasFunctions tells whether main is a function, and all are well formed.
func (p *Prog) hasFunctions() bool {
	if len(p.Funcs) > api.MaxFuncs || !within(p.Main, len(p.Funcs)-1) {
		return false
	}
	for i := range p.Funcs {
		f := &p.Funcs[i]
		if !f.isRight() || !p.hasWhatIsNamed(f) {
			return false
		}
	}
	return true
}

// isRight tells whether a function is well formed, whatever stands beside it.
func (f *Func) isRight() bool {
	if !f.hasSizes() || !f.hasNode(f.Entry) || !f.hasParams() {
		return false
	}
	for i := range f.Code {
		if !f.takes(&f.Code[i]) {
			return false
		}
	}
	return true
}

func (f *Func) hasSizes() bool {
	return len(f.Code) <= maxNodes && within(f.Regs, maxRegisters) && within(f.Frame, api.MaxSize)
}

func (f *Func) hasNode(n int) bool     { return within(n, len(f.Code)-1) }
func (f *Func) hasRegister(r int) bool { return within(r, f.Regs-1) }

// hasParams tells whether the parameters are registers, all unlike.
func (f *Func) hasParams() bool {
	seen := make([]bool, f.Regs)
	for _, r := range f.Params {
		if !f.hasRegister(r) || seen[r] {
			return false
		}
		seen[r] = true
	}
	return true
}

// takes tells whether an instruction may be one of the function's.
func (f *Func) takes(i *Instr) bool {
	shape := shapeOf(i.Op)
	if shape.name == "" || shape.lacksRegister(i) {
		return false
	}
	for r := range Uses(*i) {
		if !f.hasRegister(r) {
			return false
		}
	}
	for n := range Succs(*i) {
		if !f.hasNode(n) {
			return false
		}
	}
	return f.hasTarget(shape.d, i.D) && shape.sub.mayBe(i.Sub) && (i.Op != Frame || within(i.K, int64(f.Frame)))
}

// lacksRegister tells whether none is read where one must be.
func (s shape) lacksRegister(i *Instr) bool {
	return s.a.lacks(i.A) || s.b.lacks(i.B) || s.args && slices.Contains(i.Args, none)
}

// hasTarget tells whether a value may go there.
func (f *Func) hasTarget(d place, r int) bool {
	return d == unnamed || d == optional && r == none || f.hasRegister(r)
}

// mayBe tells whether a Sub is of its kind; a global's and a function's number hang on the program.
func (s sub) mayBe(n int) bool {
	switch s {
	case unary:
		return api.Neg <= n && n <= api.Ext32
	case binary:
		return api.Add <= n && n <= api.Ge
	case comparison:
		return api.Eq <= n && n <= api.Ge
	case chunk:
		return n == 1 || n == 4 || n == 8
	}
	return true
}

// hasWhatIsNamed tells whether the globals and functions that a function names are there.
func (p *Prog) hasWhatIsNamed(f *Func) bool {
	for n := range f.Code {
		i := &f.Code[n]
		switch shapeOf(i.Op).sub {
		case global:
			if !within(i.Sub, len(p.Globals)-1) || !within(i.K, int64(p.Globals[i.Sub])) {
				return false
			}
		case function:
			if !within(i.Sub, len(p.Funcs)-1) || len(i.Args) != len(p.Funcs[i.Sub].Params) {
				return false
			}
		}
	}
	return true
}
