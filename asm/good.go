package asm

import "plumbob/api"

// The limits of this level alone.
const (
	maxCode  = 100000
	maxLabel = 10000000
)

// within tells whether a number is from 0 to the most.
func within[N int | int64](n, most N) bool { return n >= 0 && n <= most }

// hasGlobals tells whether there are no more globals than there may be, all of sizes that may be.
func (p *Prog) hasGlobals() bool {
	for _, size := range p.Globals {
		if !within(size, api.MaxSize) {
			return false
		}
	}
	return len(p.Globals) <= api.MaxVars
}

// hasFunctions tells whether main is a function, and all are well formed.
func (p *Prog) hasFunctions() bool {
	if len(p.Funcs) > api.MaxFuncs || !within(p.Main, len(p.Funcs)-1) || !within(p.Params, api.MaxParams) {
		return false
	}
	for _, f := range p.Funcs {
		if !p.hasCode(f.Code) {
			return false
		}
	}
	return true
}

// hasCode tells whether a function may have this code.
func (p *Prog) hasCode(code []Ins) bool {
	if len(code) > maxCode || !doesSomething(code) {
		return false
	}
	for n := range code {
		if !p.takes(&code[n]) {
			return false
		}
	}
	return hasGoals(code)
}

// doesSomething tells whether not all instructions are Labels.
func doesSomething(code []Ins) bool {
	for n := range code {
		if code[n].Op != Label {
			return true
		}
	}
	return false
}

// takes tells whether an instruction may be one of the program's; a goal hangs on its function, too.
func (p *Prog) takes(i *Ins) bool {
	if !i.isFormed() {
		return false
	}
	switch shapeOf(i.Op).sub {
	case global:
		return within(i.Sub, len(p.Globals)-1) && within(i.K, int64(p.Globals[i.Sub]))
	case function:
		return within(i.Sub, len(p.Funcs)-1)
	}
	return true
}

// isFormed tells whether it may be one of some program's.
func (i *Ins) isFormed() bool {
	s := shapeOf(i.Op)
	if s.name == "" || !s.r.mayBe(i.R) || !s.m.mayBe(i.M) || !s.sub.mayBe(i.Sub) || !s.k.mayBe(i.K) {
		return false
	}
	return (!s.cc || api.Eq <= i.Cc && i.Cc <= api.Ge) && (!s.l || within(i.L, maxLabel))
}

// hasGoals tells whether all Labels are unlike, and each jump's is there.
func hasGoals(code []Ins) bool {
	labels, places := 0, placesOf(code)
	for n := range code {
		if code[n].Op == Label {
			labels++
		}
		if !code[n].jumps() {
			continue
		}
		if _, ok := places[code[n].L]; !ok {
			return false
		}
	}
	return labels == len(places)
}

// placesOf tells where each label is.
func placesOf(code []Ins) map[int]int {
	places := map[int]int{}
	for n := range code {
		if code[n].Op == Label {
			places[code[n].L] = n
		}
	}
	return places
}

// jumps tells whether an instruction may go on at its label.
func (i *Ins) jumps() bool { return i.Op == Jmp || i.Op == Jcc }
