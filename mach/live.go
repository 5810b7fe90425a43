package mach

import (
	"iter"

	"plumbob/linear"
	"plumbob/ltl"
	"plumbob/rtl"
)

// registers are some of the machine's: the bit of each.
type registers uint16

// bit is a register by itself; none, if the location is a slot.
func bit(loc int) registers {
	if loc >= ltl.FirstSlot {
		return 0
	}
	return 1 << loc
}

// each gives them, rising.
func (l registers) each() iter.Seq[int] {
	return func(yield func(int) bool) {
		for r := range ltl.FirstSlot {
			if l&bit(r) != 0 && !yield(r) {
				return
			}
		}
	}
}

// kept are those that a call keeps.
func kept() registers {
	var l registers
	for r := range ltl.FirstSlot {
		if ltl.Kept(r) {
			l |= bit(r)
		}
	}
	return l
}

// parameters are those in which so many parameters stand.
func parameters(count int) registers {
	var l registers
	for n := range count {
		loc, _ := ltl.Param(n)
		l |= bit(loc)
	}
	return l
}

// named gives the locations that an instruction's deed names.
func named(i linear.Ins) iter.Seq[int] {
	return func(yield func(int) bool) {
		for loc := range rtl.Uses(i.Deed) {
			if !yield(loc) {
				return
			}
		}
		if loc, ok := rtl.Target(i.Deed); ok {
			yield(loc)
		}
	}
}

// written are the registers that a row's own instructions write.
func written(row []linear.Ins) registers {
	var l registers
	for _, i := range row {
		l |= target(i)
	}
	return l
}

func target(i linear.Ins) registers {
	if loc, ok := rtl.Target(i.Deed); ok {
		return bit(loc)
	}
	return 0
}

// read are the registers that an instruction reads: a call what it gives on, a Return what it answers.
func read(p *linear.Parts, i linear.Ins) registers {
	switch i.Kind {
	case linear.Call:
		return parameters(p.Functions[i.Deed.Sub].Params)
	case linear.Return:
		return bit(ltl.Answer)
	}
	var l registers
	for loc := range rtl.Uses(i.Deed) {
		l |= bit(loc)
	}
	return l
}

// lost are those that an instruction leaves with no value, or with another one.
func lost(i linear.Ins) registers {
	if i.Kind == linear.Call {
		return ^kept()
	}
	return target(i)
}

// asked tells, by instruction, which registers may be read from there on before they are written.
func asked(p *linear.Parts, row []linear.Ins) []registers {
	l := make([]registers, len(row))
	next, ahead := ways(row)
	waiting := []int{}
	for at := range row {
		waiting = append(waiting, at)
	}
	for len(waiting) > 0 {
		at := waiting[len(waiting)-1]
		waiting = waiting[:len(waiting)-1]
		var behind registers
		for _, to := range next[at] {
			behind |= l[to]
		}
		if now := read(p, row[at]) | behind&^lost(row[at]); now != l[at] {
			l[at] = now
			waiting = append(waiting, ahead[at]...)
		}
	}
	return l
}

// ways tells, by instruction, which ones it goes on at, and which ones go on at it.
func ways(row []linear.Ins) (next, ahead [][]int) {
	places := linear.PlacesOf(row)
	next, ahead = make([][]int, len(row)), make([][]int, len(row))
	for at, i := range row {
		if i.Kind == linear.Jump || i.Kind == linear.Choice {
			next[at] = append(next[at], places[i.Label])
		}
		if i.Kind != linear.Jump && i.Kind != linear.Return {
			next[at] = append(next[at], at+1)
		}
		for _, to := range next[at] {
			ahead[to] = append(ahead[to], at)
		}
	}
	return next, ahead
}
