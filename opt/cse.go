package opt

import (
	"slices"

	"plumbob/flow"
	"plumbob/rtl"
	"plumbob/walk"
)

// term is what an instruction reckons: two that are alike come to the same, unless a register of theirs is written between them, or memory that they load from.
type term struct {
	op, sub, a, b int
	k             int64
}

// termOf tells what an instruction reckons, if it does nothing else but leak. Fields that nobody asks are left out.
func termOf(i rtl.Instr) (term, bool) {
	t := term{i.Op, i.Sub, none, none, i.K}
	switch i.Op {
	case rtl.Un:
		t.a, t.k = i.A, 0
	case rtl.Bin:
		t.a, t.b = i.A, i.B
		if i.B != none {
			t.k = 0
		}
	case rtl.Load:
		t.a = i.A
	case rtl.Frame:
		t.sub = 0
	case rtl.Global:
	default:
		return term{}, false
	}
	return t, true
}

// reads tells whether a register is one of its operands.
func (t term) reads(r int) bool { return r == t.a || r == t.b }

// sharer finds what was reckoned before.
type sharer struct {
	f        rtl.Func
	terms    map[term]int // their numbers
	sites    [][]int      // by term: the nodes that reckon it
	writers  [][]int      // by register: the nodes that write it
	changers []int        // the nodes that may change memory
	forward  *walk.Search
	back     [][]int // by node: those that may go on there
	sources  []int   // by node: the register that has what it reckons, or none
}

// share copies what was reckoned before in a function; what can't be reached stays.
func share(f rtl.Func) {
	s := &sharer{f: f, terms: map[term]int{}, writers: make([][]int, f.Regs)}
	for n, i := range flow.Each(f) {
		s.note(n, i)
	}
	s.forward, s.back = walk.New(walk.Forward(f.Code)), walk.Backward(f.Code)
	s.sources = slices.Repeat([]int{none}, len(f.Code))
	for _, sites := range s.sites {
		if len(sites) > 1 { // one that is alone is first met where nothing was reckoned
			s.find(sites)
		}
	}
	for n, source := range s.sources {
		if source != none {
			f.Code[n] = rtl.Instr{Op: rtl.Copy, A: source, D: f.Code[n].D, S: f.Code[n].S}
		}
	}
}

// note keeps what a node does that matters.
func (s *sharer) note(n int, i rtl.Instr) {
	if r, ok := rtl.Target(i); ok {
		s.writers[r] = append(s.writers[r], n)
	}
	if i.Op == rtl.Store || i.Op == rtl.Call {
		s.changers = append(s.changers, n)
	}
	t, ok := termOf(i)
	if !ok {
		return
	}
	number, isOld := s.terms[t]
	if !isOld {
		number = len(s.sites)
		s.terms[t] = number
		s.sites = append(s.sites, nil)
	}
	s.sites[number] = append(s.sites[number], n)
}

// find looks for registers that have at some nodes what they all reckon. Of several that one is taken which had it first, so that nobody asks those any more that have it from there.
func (s *sharer) find(sites []int) {
	t, _ := termOf(s.f.Code[sites[0]])
	for _, r := range s.targets(sites) {
		if t.reads(r) {
			continue
		}
		lost := s.lost(t, r, sites)
	search:
		for _, n := range sites {
			if n == s.f.Entry || s.sources[n] != none {
				continue
			}
			for _, from := range s.back[n] {
				if lost[from] {
					continue search
				}
			}
			s.sources[n] = r
		}
	}
}

// targets tells the registers that some nodes write, each once, in the order in which they do.
func (s *sharer) targets(nodes []int) []int {
	var l []int
	for _, n := range nodes {
		if d := s.f.Code[n].D; !slices.Contains(l, d) {
			l = append(l, d)
		}
	}
	return l
}

// lost tells behind which nodes a register may have something else than what some nodes reckon: to them a way leads, from the entry or from where it, or what is asked, is changed, that none of those goes through which write it there.
func (s *sharer) lost(t term, r int, sites []int) []bool {
	s.forward.Reset()
	for _, n := range sites {
		if s.f.Code[n].D == r {
			s.forward.Close(n)
		}
	}
	starts := slices.Concat([]int{s.f.Entry}, s.writers[r])
	for _, operand := range []int{t.a, t.b} {
		if operand != none {
			starts = append(starts, s.writers[operand]...)
		}
	}
	if t.op == rtl.Load {
		starts = append(starts, s.changers...)
	}
	l := make([]bool, len(s.f.Code))
	for n := range s.forward.From(starts...) {
		l[n] = true
	}
	return l
}
