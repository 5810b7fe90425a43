package mach

import (
	"plumbob/linear"
	"plumbob/ltl"
	"plumbob/rtl"
)

const (
	wordBytes = 8
	unit      = 16 // a frame's bytes are a multiple of it
)

// Func is a function. Its locations below ltl.FirstSlot are the machine's registers, which all calls share; those from there on are words of its frame.
type Func struct {
	Name   string
	Params int
	Block  int // the bytes of the source's block, with which the frame begins
	Frame  int // the bytes of all that it keeps
	Code   []linear.Ins
}

// Blank is one more kind of instructions: the register D of its Deed has no value from there on.
const Blank = linear.Return + 1

// Word tells at which byte of the frame a location stands that is a word.
func (f *Func) Word(loc int) int { return up(f.Block, wordBytes) + (loc-ltl.FirstSlot)*wordBytes }

// up is the least multiple that is no less than a number.
func up(n, of int) int { return (n + of - 1) / of * of }

// framed is a function with a frame for all that it keeps.
func framed(p *linear.Parts, f *linear.Func) Func {
	m := &maker{asked: asked(p, f.Code), words: make([]int, f.Locations)}
	unset := m.asked[0] &^ parameters(f.Params)
	m.giveWords(f.Code)
	m.save((written(f.Code) | unset) & kept())
	m.blank(unset)
	for at, i := range f.Code {
		m.lay(at, i)
	}
	made := Func{Name: f.Name, Params: f.Params, Block: f.Frame, Code: m.row}
	made.Frame = up(m.end(&made), unit)
	return made
}

// maker lays a function's row once more, with what its frame asks.
type maker struct {
	asked []registers // by instruction
	words []int       // by location, of slots: that of its word; 0, if nothing names it
	count int         // of all words
	saved []int       // the registers of the caller that words hold, those in the last ones
	row   []linear.Ins
}

func (m *maker) add(i linear.Ins) { m.row = append(m.row, i) }

// word is one more word's location.
func (m *maker) word() int {
	m.count++
	return ltl.FirstSlot + m.count - 1
}

// giveWords gives each slot that is named a word, in their order: those that nothing names need no bytes.
func (m *maker) giveWords(code []linear.Ins) {
	for _, i := range code {
		for loc := range named(i) {
			m.words[loc] = loc
		}
	}
	for loc := ltl.FirstSlot; loc < len(m.words); loc++ {
		if m.words[loc] != 0 {
			m.words[loc] = m.word()
		}
	}
}

// at tells where a location stands in the frame, or among the registers.
func (m *maker) at(loc int) int {
	if loc < ltl.FirstSlot {
		return loc
	}
	return m.words[loc]
}

// save gives registers words, and has the row keep there what the caller has in them.
func (m *maker) save(l registers) {
	for r := range l.each() {
		m.saved = append(m.saved, r)
		m.copy(r, m.word())
	}
}

// restore gives them back.
func (m *maker) restore() {
	for n, r := range m.saved {
		m.copy(ltl.FirstSlot+m.count-len(m.saved)+n, r)
	}
}

func (m *maker) copy(from, to int) {
	m.add(linear.Ins{Kind: linear.Plain, Deed: rtl.Instr{Op: rtl.Copy, A: from, D: to}})
}

// blank takes the values out of registers that are read though they should have none. What another call left there must not be met: 4 bytes of no value can be stored, but of a pointer they can't.
func (m *maker) blank(l registers) {
	for r := range l.each() {
		m.add(linear.Ins{Kind: Blank, Deed: rtl.Instr{D: r}})
	}
}

// lay lays an instruction.
func (m *maker) lay(at int, i linear.Ins) {
	switch i.Kind {
	case linear.Return:
		m.restore()
	case linear.Plain, linear.Choice:
		i.Deed = rtl.Renamed(i.Deed, m.at)
	}
	m.add(i)
	if i.Kind == linear.Call {
		m.blank(m.asked[at+1] & lost(i) &^ bit(ltl.Answer))
	}
}

// end tells how many bytes the frame needs. One that is pointed to has some, though its block has none, for the pointers of two calls are unlike.
func (m *maker) end(f *Func) int {
	if m.count > 0 {
		return f.Word(ltl.FirstSlot + m.count)
	}
	if f.Block == 0 && isPointedTo(m.row) {
		return unit
	}
	return f.Block
}

// isPointedTo tells whether a row has pointers to its frame.
func isPointedTo(row []linear.Ins) bool {
	for _, i := range row {
		if i.Kind == linear.Plain && i.Deed.Op == rtl.Frame {
			return true
		}
	}
	return false
}
