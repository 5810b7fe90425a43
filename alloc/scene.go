package alloc

import (
	"iter"
	"slices"

	"plumbob/api"
	"plumbob/flow"
	"plumbob/ltl"
	"plumbob/rtl"
)

// lastSlot is the last location that may be given: so there are as many slots as a function may have registers.
const lastSlot = 5015

// mayBeGiven tells whether a register may have a location.
func mayBeGiven(loc int) bool { return loc >= 0 && loc <= lastSlot && !ltl.Reserved(loc) }

// scene is a function with what stands around its registers.
type scene struct {
	f    rtl.Func
	live [][]int // by node
}

// sceneOf tells it, if the function is right.
func sceneOf(f rtl.Func) (*scene, bool) {
	live, e := flow.Live(f)
	return &scene{f, live}, e == api.OK
}

// arriving has the registers that are live at the entry.
func (s *scene) arriving() []int { return s.live[s.f.Entry] }

// allows tells whether a giving is valid.
func (s *scene) allows(giving []int) bool {
	if len(giving) != s.f.Regs {
		return false
	}
	for _, loc := range giving {
		if !mayBeGiven(loc) {
			return false
		}
	}
	for a, b := range s.clashes() {
		if giving[a] == giving[b] {
			return false
		}
	}
	for r := range s.kept() {
		if !ltl.Kept(giving[r]) {
			return false
		}
	}
	return true
}

// clashes gives the pairs of registers that must have unlike locations; some of them again.
func (s *scene) clashes() iter.Seq2[int, int] {
	return func(yield func(int, int) bool) {
		for _, i := range flow.Each(s.f) {
			d, isWritten := rtl.Target(i)
			for r := range s.behind(i) {
				isCopied := i.Op == rtl.Copy && i.A == r // the two are alike
				if isWritten && !isCopied && !yield(d, r) {
					return
				}
			}
		}
		for _, l := range [][]int{s.arriving(), s.f.Params} {
			for a, b := range pairs(l) {
				if !yield(a, b) {
					return
				}
			}
		}
	}
}

// kept gives the registers whose locations a call must keep; some of them again.
func (s *scene) kept() iter.Seq[int] {
	return func(yield func(int) bool) {
	nodes:
		for _, i := range flow.Each(s.f) {
			if i.Op != rtl.Call {
				continue nodes
			}
			for r := range s.behind(i) {
				if !yield(r) {
					break nodes
				}
			}
		}
	}
}

// behind gives the registers that are live where an instruction goes on, but the one that it writes.
func (s *scene) behind(i rtl.Instr) iter.Seq[int] {
	d, isWritten := rtl.Target(i)
	next := slices.Collect(rtl.Succs(i))
	return func(yield func(int) bool) {
		for _, n := range next {
			for _, r := range s.live[n] {
				if isWritten && r == d {
					continue
				}
				if !yield(r) {
					return
				}
			}
		}
	}
}

// pairs gives each two of a list once.
func pairs(l []int) iter.Seq2[int, int] {
	return func(yield func(int, int) bool) {
		for n, a := range l {
			for _, b := range l[:n] {
				if !yield(a, b) {
					return
				}
			}
		}
	}
}
