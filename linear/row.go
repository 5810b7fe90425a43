package linear

import (
	"slices"

	"plumbob/ltl"
	"plumbob/rtl"
)

// Func is a function.
type Func struct {
	Name      string
	Params    int
	Locations int // one more than the last one that is named, but no less than the machine has registers
	Frame     int // the bytes of its block
	Code      []Ins
}

// Kind is what an instruction of a row is.
type Kind int

// The kinds of instructions.
const (
	Plain  Kind = iota + 1 // does what graphs have that goes straight on
	Label                  // does nothing: a place to go on at
	Jump                   // goes on at a label
	Choice                 // asks what a Cond asks, and goes on at a label, or at the next instruction
	Call                   // calls a function
	Return                 // goes back to where this one was called
)

// Ins is an instruction of a row. All but Jump, Return and some Choices go on at the next one.
type Ins struct {
	Kind  Kind
	Deed  rtl.Instr // of Plain and Choice; of Call its Sub; it has no nodes to go on at, and no Args
	Label int       // of Label, Jump and Choice
	IfSo  bool      // of Choice: goes on at the label, if what is asked is so; else, if it is not so
}

// none stands where there is no node.
const none = -1

// inARow is a graph's function with its nodes in a row.
func inARow(f rtl.Func) Func {
	var w writer
	nodes := order(f)
	for at, n := range nodes {
		next := none
		if at+1 < len(nodes) {
			next = nodes[at+1]
		}
		w.lay(n, f.Code[n], next)
	}
	code := withGoals(w.row)
	return Func{Name: f.Name, Params: len(f.Params), Locations: locations(code), Frame: f.Frame, Code: code}
}

// order tells in which order nodes are laid: a way from the entry on is followed till it ends, or comes to what is laid already; then the last one that was left aside. What is left aside is kept in a list, since a graph may be deeper than calls should be.
func order(f rtl.Func) []int {
	var l []int
	isLaid := make([]bool, len(f.Code))
	waiting := []int{f.Entry}
	for len(waiting) > 0 {
		n := waiting[len(waiting)-1]
		waiting = waiting[:len(waiting)-1]
		if isLaid[n] {
			continue
		}
		isLaid[n] = true
		l = append(l, n)
		first := len(waiting)
		for to := range rtl.Succs(f.Code[n]) {
			waiting = append(waiting, to)
		}
		slices.Reverse(waiting[first:])
	}
	return l
}

// writer lays nodes in a row, each behind a label of its number.
type writer struct{ row []Ins }

func (w *writer) add(i Ins) { w.row = append(w.row, i) }

// lay lays a node ahead of the next one.
func (w *writer) lay(n int, i rtl.Instr, next int) {
	w.add(Ins{Kind: Label, Label: n})
	switch i.Op {
	case rtl.Return:
		w.add(Ins{Kind: Return})
		return
	case rtl.Cond:
		w.choose(i, next)
		return
	case rtl.Call:
		w.add(Ins{Kind: Call, Deed: deed(i)})
	case rtl.Nop:
	default:
		w.add(Ins{Kind: Plain, Deed: deed(i)})
	}
	w.goOn(i.S, next)
}

// deed is what an instruction does, wherever it goes on.
func deed(i rtl.Instr) rtl.Instr {
	i = rtl.Renamed(i, func(loc int) int { return loc })
	i.Args, i.S, i.T = nil, 0, 0
	return i
}

func (w *writer) choose(i rtl.Instr, next int) {
	if i.S == next {
		w.add(Ins{Kind: Choice, Deed: deed(i), Label: i.T})
		return
	}
	w.add(Ins{Kind: Choice, Deed: deed(i), Label: i.S, IfSo: true})
	w.goOn(i.T, next)
}

// goOn goes on at a node.
func (w *writer) goOn(n, next int) {
	if n != next {
		w.add(Ins{Kind: Jump, Label: n})
	}
}

// withGoals is a row without labels that nothing goes on at.
func withGoals(row []Ins) []Ins {
	isGoal := map[int]int{}
	for _, i := range row {
		if i.Kind == Jump || i.Kind == Choice {
			isGoal[i.Label]++
		}
	}
	return slices.DeleteFunc(row, func(i Ins) bool { return i.Kind == Label && isGoal[i.Label] == 0 })
}

// locations tells how many locations there must be.
func locations(code []Ins) int {
	last := ltl.FirstSlot - 1
	for _, i := range code {
		for loc := range rtl.Uses(i.Deed) {
			last = max(last, loc)
		}
		if loc, ok := rtl.Target(i.Deed); ok {
			last = max(last, loc)
		}
	}
	return last + 1
}
