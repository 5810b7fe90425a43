// Package graphs makes programs of graphs for tests: all well formed, of every kind, by choices that are handed in.
package graphs

import "plumbob/rtl"

const (
	least = 32 // bytes that every block has that is pointed to
	cell  = 8  // bytes of an access, at most
)

// Maker makes programs. Registers are of one kind each, and what is read was written: so that nearly all runs have a meaning, but for slips.
type Maker struct {
	pick  func(int) int // tells a number below the one that it is given
	slips int           // one of so many choices is made without care; 0: none
	again int           // one of so many statements reckons what was reckoned before; 0: none
	made  rtl.Prog
	heads []head
}

// head is what is known of a function before it is written.
type head struct {
	ints, pointers int // parameters
	answers        bool
	calls          []int // the functions that it may call
}

// New begins.
func New(pick func(int) int, slips int) *Maker { return &Maker{pick: pick, slips: slips} }

// Again has one of so many statements reckon what was reckoned before.
func (m *Maker) Again(every int) *Maker {
	m.again = every
	return m
}

func (m *Maker) slip() bool { return m.slips > 0 && m.pick(m.slips) == 0 }

// Program makes one.
func (m *Maker) Program() rtl.Prog {
	m.made = rtl.Prog{}
	for range 1 + m.pick(3) {
		m.made.Globals = append(m.made.Globals, m.size())
	}
	order := m.shuffled(1 + m.pick(4))
	m.made.Main = order[0]
	m.heads = make([]head, len(order))
	for i, number := range order {
		h := head{m.pick(4), m.pick(3), m.pick(4) > 0, order[i+1:]}
		if i == 0 {
			h.pointers, h.answers = 0, true
		}
		m.heads[number] = h
	}
	for number := range m.heads {
		m.made.Funcs = append(m.made.Funcs, m.function(number))
	}
	return m.made
}

func (m *Maker) size() int {
	if m.slip() {
		return m.pick(least)
	}
	return least + cell*m.pick(3)
}

// shuffled tells the numbers below one, in some order.
func (m *Maker) shuffled(count int) []int {
	l := make([]int, count)
	for i := range l {
		at := m.pick(i + 1)
		l[i] = l[at]
		l[at] = i
	}
	return l
}

// number is one at which something turns, or a small one.
func (m *Maker) number() int64 {
	n := [...]int64{0, 1, 2, 7, 8, 63, 64, 127, 128, 255, 1 << 31, 1<<31 - 1, 1 << 32, 1 << 62, 1<<63 - 1}[m.pick(15)]
	switch m.pick(4) {
	case 0:
		return -n
	case 1:
		return -n - 1
	}
	return n
}
