package opt

import (
	"slices"

	"plumbob/api"
	"plumbob/flow"
	"plumbob/rtl"
	"plumbob/val"
)

// A second reading of the chapter, by which answers are asked: slow, and by the words alone.

// goesOn tells the nodes at which an instruction may go on.
func goesOn(i rtl.Instr) []int {
	switch i.Op {
	case rtl.Return:
		return nil
	case rtl.Cond:
		return []int{i.S, i.T}
	}
	return []int{i.S}
}

// writes tells whether it writes a register.
func writes(i rtl.Instr, r int) bool {
	switch i.Op {
	case rtl.Const, rtl.Copy, rtl.Un, rtl.Bin, rtl.Load, rtl.Global, rtl.Frame, rtl.Call, rtl.In:
		return i.D == r
	}
	return false
}

// reached tells to which nodes a way leads from the entry.
func reached(f rtl.Func) []bool {
	l := make([]bool, len(f.Code))
	var visit func(n int)
	visit = func(n int) {
		if l[n] {
			return
		}
		l[n] = true
		for _, s := range goesOn(f.Code[n]) {
			visit(s)
		}
	}
	visit(f.Entry)
	return l
}

// foldModel asks of each node what is known there.
func foldModel(f rtl.Func) rtl.Func {
	f = with(f, nil)
	facts, reached, _ := flow.Known(f)
	for n, i := range f.Code {
		if !reached[n] {
			continue
		}
		first, second := flow.Fact{}, flow.Fact{Known: true, V: i.K}
		switch i.Op {
		case rtl.Copy, rtl.Un, rtl.Bin, rtl.Cond:
			first = facts[n][i.A]
		}
		hasTwo := (i.Op == rtl.Bin || i.Op == rtl.Cond) && i.B != -1
		if hasTwo {
			second = facts[n][i.B]
		}
		v, ok := val.Of(first.V), first.Known
		switch i.Op {
		case rtl.Un:
			v, ok = val.Un(i.Sub, v)
		case rtl.Bin, rtl.Cond:
			v, ok = val.Bin(i.Sub, v, val.Of(second.V))
		}
		swapped, canSwap := val.Swap(i.Sub)
		switch {
		case ok && first.Known && second.Known && i.Op == rtl.Cond && v.N == 1:
			f.Code[n] = nothing(i.S)
		case ok && first.Known && second.Known && i.Op == rtl.Cond:
			f.Code[n] = nothing(i.T)
		case ok && first.Known && second.Known:
			f.Code[n] = constant(i.D, v.N, i.S)
		case hasTwo && !first.Known && second.Known:
			f.Code[n].B, f.Code[n].K = -1, second.V
		case hasTwo && first.Known && !second.Known && canSwap:
			f.Code[n].Sub, f.Code[n].A, f.Code[n].B, f.Code[n].K = swapped, i.B, -1, first.V
		}
	}
	return f
}

// held is that a register has what an instruction reckons, told by the least node that reckons it.
type held struct{ node, register int }

// isAlike tells whether two instructions reckon the same, by the fields that the table names.
func isAlike(a, b rtl.Instr) bool {
	if a.Op != b.Op {
		return false
	}
	switch a.Op {
	case rtl.Un:
		return a.Sub == b.Sub && a.A == b.A
	case rtl.Bin:
		return a.Sub == b.Sub && a.A == b.A && a.B == b.B && (a.B != -1 || a.K == b.K)
	case rtl.Load:
		return a.Sub == b.Sub && a.A == b.A && a.K == b.K
	case rtl.Global:
		return a.Sub == b.Sub && a.K == b.K
	case rtl.Frame:
		return a.K == b.K
	}
	return false
}

// operands tells the registers of which an instruction reckons.
func operands(i rtl.Instr) []int {
	switch i.Op {
	case rtl.Un, rtl.Load:
		return []int{i.A}
	case rtl.Bin:
		return []int{i.A, i.B}
	}
	return nil
}

// holder finds what registers hold, ahead of each node: it begins with all that could be, and takes away till nothing changes.
type holder struct {
	f     rtl.Func
	ahead []map[held]bool // nil, where no way leads
}

// first is the least node that reckons the same as another.
func (h *holder) first(n int) int {
	return slices.IndexFunc(h.f.Code, func(i rtl.Instr) bool { return isAlike(i, h.f.Code[n]) })
}

// behind tells what is held behind a node.
func (h *holder) behind(n int) map[held]bool {
	i := h.f.Code[n]
	l := map[held]bool{}
	for k := range h.ahead[n] {
		reckons := h.f.Code[k.node]
		isChanged := reckons.Op == rtl.Load && (i.Op == rtl.Store || i.Op == rtl.Call)
		for _, r := range append(operands(reckons), k.register) {
			isChanged = isChanged || r != -1 && writes(i, r)
		}
		if !isChanged {
			l[k] = true
		}
	}
	if isAlike(i, i) && !slices.Contains(operands(i), i.D) {
		l[held{h.first(n), i.D}] = true
	}
	return l
}

// begin has all held everywhere to which a way leads, but nothing at the entry.
func (h *holder) begin() {
	all := map[held]bool{}
	for n, i := range h.f.Code {
		if isAlike(i, i) && !slices.Contains(operands(i), i.D) {
			all[held{h.first(n), i.D}] = true
		}
	}
	h.ahead = make([]map[held]bool, len(h.f.Code))
	for n, is := range reached(h.f) {
		if is {
			h.ahead[n] = map[held]bool{}
			for k := range all {
				h.ahead[n][k] = true
			}
		}
	}
	clear(h.ahead[h.f.Entry])
}

func (h *holder) find() {
	h.begin()
	for isNew := true; isNew; {
		isNew = false
		for n, i := range h.f.Code {
			if h.ahead[n] == nil {
				continue
			}
			behind := h.behind(n)
			for _, s := range goesOn(i) {
				for k := range h.ahead[s] {
					if !behind[k] {
						delete(h.ahead[s], k)
						isNew = true
					}
				}
			}
		}
	}
}

// cseModel copies from that register which, of those that hold what is reckoned, is the first one in the nodes' order that it is reckoned to.
func cseModel(f rtl.Func) rtl.Func {
	h := &holder{f: f}
	h.find()
	order, _ := flow.Order(f)
	made := with(f, nil)
	for n, i := range f.Code {
		if h.ahead[n] == nil || !isAlike(i, i) {
			continue
		}
		for _, m := range order {
			if r := f.Code[m].D; isAlike(f.Code[m], i) && h.ahead[n][held{h.first(n), r}] {
				made.Code[n] = move(r, i.D, i.S)
				break
			}
		}
	}
	return made
}

// deadModel leaves out what Live does not ask, one layer behind the other.
func deadModel(f rtl.Func) rtl.Func {
	f = with(f, nil)
	for isNew := true; isNew; {
		isNew = false
		live, e := flow.Live(f)
		if e != api.OK {
			return rtl.Func{}
		}
		for n, i := range f.Code {
			switch i.Op {
			case rtl.Const, rtl.Copy, rtl.Un, rtl.Bin, rtl.Load, rtl.Global, rtl.Frame:
				if !slices.ContainsFunc(goesOn(i), func(s int) bool { return slices.Contains(live[s], i.D) }) {
					f.Code[n] = nothing(i.S)
					isNew = true
				}
			}
		}
	}
	return f
}
