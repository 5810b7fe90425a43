package alloc

import (
	"math/rand"
	"slices"

	"plumbob/rtl"
)

// A second reading of what is valid: from the words of chapters 14 and 17, register by register.

// goesOn tells the nodes that an instruction may go on at.
func goesOn(i rtl.Instr) []int {
	switch i.Op {
	case rtl.Return:
		return nil
	case rtl.Cond:
		return []int{i.S, i.T}
	}
	return []int{i.S}
}

func reads(i rtl.Instr, r int) bool {
	switch i.Op {
	case rtl.Copy, rtl.Un, rtl.Load, rtl.Return, rtl.Out:
		return i.A == r
	case rtl.Bin, rtl.Store, rtl.Cond:
		return i.A == r || i.B == r
	case rtl.Call:
		return slices.Contains(i.Args, r)
	}
	return false
}

// written tells the register that an instruction writes, or -1.
func written(i rtl.Instr) int {
	switch i.Op {
	case rtl.Nop, rtl.Store, rtl.Cond, rtl.Return, rtl.Out:
		return -1
	}
	return i.D
}

func reached(f rtl.Func) []bool {
	met := make([]bool, len(f.Code))
	var meet func(n int)
	meet = func(n int) {
		if !met[n] {
			met[n] = true
			for _, to := range goesOn(f.Code[n]) {
				meet(to)
			}
		}
	}
	meet(f.Entry)
	return met
}

// liveAt tells at which nodes a register is live, till nothing changes.
func liveAt(f rtl.Func, r int) []bool {
	live := make([]bool, len(f.Code))
	for isChanged := true; isChanged; {
		isChanged = false
		for n, i := range f.Code {
			isLive := reads(i, r)
			for _, to := range goesOn(i) {
				isLive = isLive || live[to] && written(i) != r
			}
			isChanged = isChanged || isLive != live[n]
			live[n] = isLive
		}
	}
	return live
}

// rules are what a giving must keep to.
type rules struct {
	count  int
	unlike [][]bool
	kept   []bool
}

func rulesOf(f rtl.Func) rules {
	k := rules{f.Regs, make([][]bool, f.Regs), make([]bool, f.Regs)}
	live := make([][]bool, f.Regs)
	for r := range f.Regs {
		k.unlike[r], live[r] = make([]bool, f.Regs), liveAt(f, r)
	}
	isReached := reached(f)
	for n, i := range f.Code {
		for r := range f.Regs {
			d := written(i)
			if !isReached[n] || r == d || !slices.ContainsFunc(goesOn(i), func(n int) bool { return live[r][n] }) {
				continue
			}
			k.kept[r] = k.kept[r] || i.Op == rtl.Call
			if d != -1 && !(i.Op == rtl.Copy && i.A == r) {
				k.unlike[d][r], k.unlike[r][d] = true, true
			}
		}
	}
	for a := range f.Regs {
		for b := range f.Regs {
			if a != b && (live[a][f.Entry] && live[b][f.Entry] || slices.Contains(f.Params, a) && slices.Contains(f.Params, b)) {
				k.unlike[a][b] = true
			}
		}
	}
	return k
}

// mayHave tells whether a register may have a location beside what others have.
func (k rules) mayHave(r, loc int, giving []int) bool {
	if !slices.Contains(machines, loc) && (loc < 16 || loc > 5015) || k.kept[r] && !isKeeping(loc) {
		return false
	}
	for other, isUnlike := range k.unlike[r] {
		if isUnlike && giving[other] == loc {
			return false
		}
	}
	return true
}

func (k rules) allow(giving []int) bool {
	if len(giving) != k.count {
		return false
	}
	for r, loc := range giving {
		if !k.mayHave(r, loc, giving) {
			return false
		}
	}
	return true
}

// anyGiving is a valid one by chance: each register in turn has the first location of some order that it may have.
func anyGiving(r *rand.Rand, f rtl.Func) []int {
	k := rulesOf(f)
	locations := append(shuffled(r, machines), 16, 17, 18, 40)
	if r.Intn(3) == 0 {
		locations = shuffled(r, locations)
	}
	giving := slices.Repeat([]int{-1}, f.Regs)
	for _, register := range shuffled(r, numbers(f.Regs)) {
		first := r.Intn(3)
		at := slices.IndexFunc(locations[first:], func(loc int) bool { return k.mayHave(register, loc, giving) })
		if at < 0 {
			at = len(locations) - first
			locations = append(locations, 100+register)
		}
		giving[register] = locations[first+at]
	}
	return giving
}
