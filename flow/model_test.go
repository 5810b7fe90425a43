package flow

import (
	"slices"

	"plumbob/api"
	"plumbob/rtl"
	"plumbob/val"
)

// A second reading of the chapter, by which answers are asked: slow, and by the words alone.

// goesOn tells the nodes at which an instruction may go on.
func goesOn(i rtl.Instr) []int {
	switch i.Op {
	case rtl.Return:
		return nil
	case rtl.Cond:
		return []int{i.S, i.T}
	}
	return []int{i.S}
}

// reads tells whether an instruction reads a register.
func reads(i rtl.Instr, r int) bool {
	switch i.Op {
	case rtl.Copy, rtl.Un, rtl.Load, rtl.Return, rtl.Out:
		return i.A == r
	case rtl.Bin, rtl.Store, rtl.Cond:
		return i.A == r || i.B == r
	case rtl.Call:
		return slices.Contains(i.Args, r)
	}
	return false
}

// writes tells whether it writes one.
func writes(i rtl.Instr, r int) bool {
	switch i.Op {
	case rtl.Const, rtl.Copy, rtl.Un, rtl.Bin, rtl.Load, rtl.Global, rtl.Frame, rtl.Call, rtl.In:
		return i.D == r
	}
	return false
}

// liveModel asks of each node and register whether some way leads to one that reads it.
func liveModel(f rtl.Func) [][]int {
	l := make([][]int, len(f.Code))
	for n := range f.Code {
		for r := range f.Regs {
			if isLive(f, n, r, map[int]bool{}) {
				l[n] = append(l[n], r)
			}
		}
	}
	return l
}

func isLive(f rtl.Func, n, r int, seen map[int]bool) bool {
	if seen[n] {
		return false
	}
	seen[n] = true
	if reads(f.Code[n], r) {
		return true
	}
	return !writes(f.Code[n], r) && slices.ContainsFunc(goesOn(f.Code[n]), func(s int) bool { return isLive(f, s, r, seen) })
}

// followsLive tells what is live at each node, if what is live at those where it goes on is so.
func followsLive(f rtl.Func, live [][]int) [][]int {
	l := make([][]int, len(f.Code))
	for n, i := range f.Code {
		for r := range f.Regs {
			isBehind := slices.ContainsFunc(goesOn(i), func(s int) bool { return slices.Contains(live[s], r) })
			if reads(i, r) || isBehind && !writes(i, r) {
				l[n] = append(l[n], r)
			}
		}
	}
	return l
}

// knowledge is what is known at each node: nil, where it is not reached.
type knowledge [][]Fact

// followsKnown tells what is known at each node, if that is so which is known at those that go on there.
func followsKnown(f rtl.Func, k knowledge) knowledge {
	l := make(knowledge, len(f.Code))
	for n, i := range f.Code {
		if k[n] == nil {
			continue
		}
		behind := slices.Clone(k[n])
		for r := range behind {
			if writes(i, r) {
				behind[r] = reckoned(i, k[n])
			}
		}
		for _, s := range taken(i, k[n]) {
			l[s] = meet(l[s], behind)
		}
	}
	l[f.Entry] = make([]Fact, f.Regs)
	return l
}

// meet is what two ways know that meet: all that one knows, if the other is none.
func meet(a, b []Fact) []Fact {
	if a == nil {
		return slices.Clone(b)
	}
	l := make([]Fact, len(a))
	for r := range l {
		if a[r].Known && b[r].Known && a[r].V == b[r].V {
			l[r] = a[r]
		}
	}
	return l
}

// reckoned is what is known of D behind an instruction.
func reckoned(i rtl.Instr, before []Fact) Fact {
	second := Fact{true, i.K}
	if i.Op == rtl.Bin && i.B != -1 {
		second = before[i.B]
	}
	var v api.Val
	ok := false
	switch {
	case i.Op == rtl.Const:
		return Fact{true, i.K}
	case i.Op == rtl.Copy:
		return before[i.A]
	case i.Op == rtl.Un && before[i.A].Known:
		v, ok = val.Un(i.Sub, val.Of(before[i.A].V))
	case i.Op == rtl.Bin && before[i.A].Known && second.Known:
		v, ok = val.Bin(i.Sub, val.Of(before[i.A].V), val.Of(second.V))
	}
	return Fact{ok, v.N}
}

// taken tells the nodes at which an instruction goes on, as what is known says.
func taken(i rtl.Instr, before []Fact) []int {
	if i.Op != rtl.Cond || !before[i.A].Known || i.B != -1 && !before[i.B].Known {
		return goesOn(i)
	}
	second := i.K
	if i.B != -1 {
		second = before[i.B].V
	}
	if v, _ := val.Bin(i.Sub, val.Of(before[i.A].V), val.Of(second)); v.N == 1 {
		return []int{i.S}
	}
	return []int{i.T}
}

// knownModel begins with nothing, and follows till nothing changes.
func knownModel(f rtl.Func) knowledge {
	k := make(knowledge, len(f.Code))
	for {
		next := followsKnown(f, k)
		if sameKnown(k, next) {
			return k
		}
		k = next
	}
}

func sameKnown(a, b knowledge) bool {
	return slices.EqualFunc(a, b, func(x, y []Fact) bool { return (x == nil) == (y == nil) && slices.Equal(x, y) })
}

// atMost tells whether one knows all that another does, and reaches nothing else.
func atMost(a, b knowledge) bool {
	for n := range a {
		if a[n] != nil && b[n] == nil {
			return false
		}
		for r := range a[n] {
			if b[n][r].Known && a[n][r] != b[n][r] {
				return false
			}
		}
	}
	return true
}

// answeredKnown is what Known answers.
func answeredKnown(f rtl.Func) knowledge {
	facts, reached, _ := Known(f)
	k := make(knowledge, len(facts))
	for n := range facts {
		if reached[n] {
			k[n] = append(make([]Fact, 0), facts[n]...)
		}
	}
	return k
}

// orderModel is what stands ahead of what was gone on with last.
func orderModel(f rtl.Func) []int {
	var l []int
	seen := map[int]bool{}
	var visit func(n int)
	visit = func(n int) {
		if seen[n] {
			return
		}
		seen[n] = true
		for _, s := range goesOn(f.Code[n]) {
			visit(s)
		}
		l = append([]int{n}, l...)
	}
	visit(f.Entry)
	return l
}

// followsDominators tells those that dominate each node, if that is so of those that go on there: itself, and what dominates all of them.
func followsDominators(f rtl.Func, dominators [][]int) [][]int {
	reached := orderModel(f)
	l := make([][]int, len(f.Code))
	for _, n := range reached {
		for _, d := range slices.Sorted(slices.Values(reached)) {
			isMissed := slices.ContainsFunc(reached, func(p int) bool {
				return slices.Contains(goesOn(f.Code[p]), n) && !slices.Contains(dominators[p], d)
			})
			if d == n || n != f.Entry && !isMissed {
				l[n] = append(l[n], d)
			}
		}
	}
	return l
}

// dominatorsModel goes along each way that does not come to a node twice, and keeps what stands on all.
func dominatorsModel(f rtl.Func) [][]int {
	l := make([][]int, len(f.Code))
	var walk func(way []int)
	walk = func(way []int) {
		n := way[len(way)-1]
		if l[n] == nil {
			l[n] = slices.Sorted(slices.Values(way))
		}
		l[n] = slices.DeleteFunc(l[n], func(d int) bool { return !slices.Contains(way, d) })
		for _, s := range goesOn(f.Code[n]) {
			if !slices.Contains(way, s) {
				walk(append(slices.Clone(way), s))
			}
		}
	}
	walk([]int{f.Entry})
	return l
}

// solveModel raises numbers by edges till nothing changes.
func solveModel(edges [][2]int, start []int) []int {
	l := slices.Clone(start)
	for {
		before := slices.Clone(l)
		for _, e := range edges {
			l[e[1]] = max(l[e[1]], l[e[0]])
		}
		if slices.Equal(l, before) {
			return l
		}
	}
}
