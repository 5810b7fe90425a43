package flow

import (
	"iter"

	"plumbob/api"
	"plumbob/rtl"
	"plumbob/val"
	"plumbob/walk"
)

// none stands where there is no register, or no node.
const none = -1

// knower finds what is known, from "nothing reached" on: where a node is reached first, all is known that is so on that way; from then on a register is lost there, if another way says otherwise, and once at most.
type knower struct {
	code    []rtl.Instr
	next    [][]int
	facts   [][]Fact // by node: of each register
	reached []bool
	met     []int  // nodes that were reached, from which nothing went on yet
	lost    []loss // what was lost, and is not passed on yet
}

// loss is a register that is not known any more at a node.
type loss struct{ node, register int }

func known(f rtl.Func) *knower {
	k := &knower{code: f.Code, next: walk.Forward(f.Code), reached: make([]bool, len(f.Code))}
	for range f.Code {
		k.facts = append(k.facts, make([]Fact, f.Regs))
	}
	k.reach(f.Entry)
	for len(k.met) > 0 || len(k.lost) > 0 {
		met, lost := k.met, k.lost
		k.met, k.lost = nil, nil
		for _, n := range met {
			k.goOn(n)
		}
		for _, l := range lost {
			k.passOn(l)
		}
	}
	return k
}

func (k *knower) reach(n int) {
	k.reached[n] = true
	k.met = append(k.met, n)
}

func (k *knower) lose(n, r int) {
	if k.facts[n][r].Known {
		k.facts[n][r] = Fact{}
		k.lost = append(k.lost, loss{n, r})
	}
}

// goOn takes what is known behind a node to those at which it goes on.
func (k *knower) goOn(n int) {
	for _, to := range k.ways(n) {
		isFirst := !k.reached[to]
		for r, fact := range k.behind(n) {
			if isFirst {
				k.facts[to][r] = fact
			} else if fact != k.facts[to][r] {
				k.lose(to, r)
			}
		}
		if isFirst {
			k.reach(to)
		}
	}
}

// passOn takes a loss alone further, where nothing else hangs on it.
func (k *knower) passOn(l loss) {
	i := k.code[l.node]
	if i.A == l.register || i.B == l.register { // what it writes, and where it goes on
		k.goOn(l.node)
		return
	}
	if d, ok := rtl.Target(i); ok && d == l.register {
		return
	}
	for _, to := range k.ways(l.node) {
		k.lose(to, l.register)
	}
}

// ways tells the nodes at which a node goes on, as far as what is known says.
func (k *knower) ways(n int) []int {
	l := k.next[n]
	if k.code[n].Op != rtl.Cond {
		return l
	}
	answer := result(k.code[n], k.facts[n])
	switch {
	case !answer.Known:
		return l
	case answer.V == 1:
		return l[:1]
	}
	return l[1:]
}

// behind gives what is known of each register behind a node.
func (k *knower) behind(n int) iter.Seq2[int, Fact] {
	facts := k.facts[n]
	d, writes := rtl.Target(k.code[n])
	written := result(k.code[n], facts)
	return func(yield func(int, Fact) bool) {
		for r, fact := range facts {
			if writes && r == d {
				fact = written
			}
			if !yield(r, fact) {
				return
			}
		}
	}
}

// result is what is known of what an instruction writes; of a branch, of what its comparison comes to.
func result(i rtl.Instr, facts []Fact) Fact {
	switch i.Op {
	case rtl.Const:
		return Fact{true, i.K}
	case rtl.Copy:
		return of(facts, i.A)
	case rtl.Un:
		return unary(i, facts)
	case rtl.Bin, rtl.Cond:
		return binary(i, facts)
	}
	return Fact{}
}

// of is what is known of a register: nothing, if there is none.
func of(facts []Fact, r int) Fact {
	if !within(r, len(facts)-1) {
		return Fact{}
	}
	return facts[r]
}

func unary(i rtl.Instr, facts []Fact) Fact {
	a := of(facts, i.A)
	if !a.Known {
		return Fact{}
	}
	return fact(val.Un(i.Sub, val.Of(a.V)))
}

func binary(i rtl.Instr, facts []Fact) Fact {
	a, b := of(facts, i.A), Fact{true, i.K}
	if i.B != none {
		b = of(facts, i.B)
	}
	if !a.Known || !b.Known {
		return Fact{}
	}
	return fact(val.Bin(i.Sub, val.Of(a.V), val.Of(b.V)))
}

// fact is what is known of a value that may be none.
func fact(v api.Val, ok bool) Fact {
	if !ok {
		return Fact{}
	}
	return Fact{true, v.N}
}
