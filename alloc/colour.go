package alloc

import (
	"iter"
	"slices"

	"plumbob/flow"
	"plumbob/ltl"
	"plumbob/rtl"
)

// none stands where there is no register, or no location as yet.
const none = -1

// painter gives locations.
type painter struct {
	*scene
	*graph
	isKept  []bool  // by register: must a call keep its location
	touches []int   // by register: how often it is read or written
	wishes  [][]int // by register: locations that would save a move
	copies  [][]int // by register: those that it is copied to, or from
	giving  []int   // so far
	taken   []int   // by location: the register that last found it taken
	room    int     // how many of the machine's registers may be given
	keeping int     // how many of these calls keep
}

// colour gives each register a location: the machine's while there are some, then slots.
func colour(s *scene) []int {
	p := newPainter(s)
	for _, r := range slices.Backward(p.order()) {
		p.giving[r] = p.choice(r)
	}
	return p.giving
}

func newPainter(s *scene) *painter {
	count := s.f.Regs
	p := &painter{scene: s, graph: newGraph(count, s.clashes())}
	p.isKept, p.touches = make([]bool, count), make([]int, count)
	p.wishes, p.copies = make([][]int, count), make([][]int, count)
	p.giving, p.taken = slices.Repeat([]int{none}, count), slices.Repeat([]int{none}, lastSlot+1)
	for r := range s.kept() {
		p.isKept[r] = true
	}
	p.room, p.keeping = room()
	p.wishAll(s.f.Params)
	for _, i := range flow.Each(s.f) {
		p.note(i)
	}
	return p
}

// note keeps what an instruction says of its registers.
func (p *painter) note(i rtl.Instr) {
	for r := range rtl.Uses(i) {
		p.touches[r]++
	}
	d, isWritten := rtl.Target(i)
	if isWritten {
		p.touches[d]++
	}
	switch {
	case i.Op == rtl.Copy:
		p.copies[d], p.copies[i.A] = append(p.copies[d], i.A), append(p.copies[i.A], d)
	case i.Op == rtl.Call:
		p.wishAll(i.Args)
		if isWritten {
			p.wish(d, ltl.Answer)
		}
	case i.Op == rtl.Return && i.A != none:
		p.wish(i.A, ltl.Answer)
	}
}

func (p *painter) wish(r, loc int) { p.wishes[r] = append(p.wishes[r], loc) }

// wishAll wishes registers where parameters stand.
func (p *painter) wishAll(registers []int) {
	for n, r := range registers {
		if loc, ok := ltl.Param(n); ok {
			p.wish(r, loc)
		}
	}
}

// order tells in which order registers are put aside. They choose the other way round: the last one first.
func (p *painter) order() []int {
	around, left := p.degrees(), make([]int, p.f.Regs)
	for r := range left {
		left[r] = r
	}
	var l []int
	for len(left) > 0 {
		first := 0
		for at, r := range left {
			if p.isAhead(r, left[first], around) {
				first = at
			}
		}
		r := left[first]
		left = slices.Delete(left, first, first+1)
		l = append(l, r)
		for other := range p.neighbours(r) {
			around[other]--
		}
	}
	return l
}

// isAhead tells whether a register is put aside ahead of another: first those that will find a machine's register whatever the others choose, of these first those that wish nothing; then the one that is touched the least for how many it stands in the way of.
func (p *painter) isAhead(r, other int, around []int) bool {
	a, b := p.rank(r, around[r]), p.rank(other, around[other])
	if a != b || a != contended {
		return a < b
	}
	return p.touches[r]*around[other] < p.touches[other]*around[r]
}

// How registers are ranked.
const (
	easy = iota
	wishful
	contended
)

// rank tells it of a register with so many around it.
func (p *painter) rank(r, around int) int {
	switch {
	case around >= p.room || p.isKept[r] && around >= p.keeping:
		return contended
	case len(p.wishes[r]) > 0:
		return wishful
	}
	return easy
}

// room tells how many of the machine's registers may be given, and how many of these calls keep.
func room() (all, keeping int) {
	for loc := range locations() {
		if loc >= ltl.FirstSlot {
			break
		}
		all++
		if ltl.Kept(loc) {
			keeping++
		}
	}
	return all, keeping
}

// choice tells the best location for a register that none around it has. There always is one: there are as many slots as registers.
func (p *painter) choice(r int) int {
	for other := range p.neighbours(r) {
		if loc := p.giving[other]; loc != none {
			p.taken[loc] = r
		}
	}
	for loc := range p.choices(r) {
		if p.taken[loc] != r && (ltl.Kept(loc) || !p.isKept[r]) {
			return loc
		}
	}
	return none
}

// choices gives locations for a register, the best ones first.
func (p *painter) choices(r int) iter.Seq[int] {
	return func(yield func(int) bool) {
		for _, loc := range p.wishes[r] {
			if !yield(loc) {
				return
			}
		}
		for _, other := range p.copies[r] {
			if loc := p.giving[other]; loc != none && !yield(loc) {
				return
			}
		}
		locations()(yield)
	}
}

// locations gives all that may be given: those that a call does not keep first, slots last.
func locations() iter.Seq[int] {
	return func(yield func(int) bool) {
		for loc := range ltl.FirstSlot {
			if mayBeGiven(loc) && !ltl.Kept(loc) && !yield(loc) {
				return
			}
		}
		for loc := range lastSlot + 1 {
			if mayBeGiven(loc) && ltl.Kept(loc) && !yield(loc) {
				return
			}
		}
	}
}
