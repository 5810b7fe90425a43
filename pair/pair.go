// Package pair holds a program's runs at two levels against each other, for tests: what it does above it does below, and two runs that leak the same above leak the same below.
package pair

import (
	"iter"
	"strconv"

	"plumbob/api"
	"plumbob/trace"
)

// Level runs a program at one level.
type Level func(args, world []int64, fuel int) api.Run

// Pair is a program at two levels. With fuel f above it is given Times f + More below.
type Pair struct {
	Upper, Lower Level
	Times, More  int
	Most         int // how much fuel a run above is given, which may not end
	Leap         int // how many steps above one below may stand for, at most; 0 is 1
}

// Given is what a run is given.
type Given struct{ Args, World []int64 }

const (
	mostFuel = 10000000
	tries    = 50 // at how many fuels a run is asked, if it has so many
)

// Holds asks whether what is done above is done below, with each fuel (of a long run, with some). It tells how the run above ends, and what is wrong, if something is. Of one that is Stuck nothing is asked.
func (p Pair) Holds(g Given) (kind int, fault string) {
	whole := p.Upper(g.Args, g.World, p.Most)
	if whole.Kind == api.Stuck {
		return api.Stuck, ""
	}
	last, far := whole.Steps+1, whole
	if whole.Kind == api.Fuel {
		last = p.Most / p.Times
		far = p.Upper(g.Args, g.World, min(mostFuel, p.fuel(last)*p.leap()))
		if far.Kind == api.Stuck {
			return api.Stuck, ""
		}
	}
	for fuel := range some(last) {
		if fault := p.holdsAt(g, fuel, far); fault != "" {
			return whole.Kind, fault
		}
	}
	return whole.Kind, ""
}

func (p Pair) fuel(above int) int { return p.Times*above + p.More }

func (p Pair) leap() int { return max(1, p.Leap) }

// some gives numbers up to the last one: all, if they are few; the last two always.
func some(last int) iter.Seq[int] {
	return func(yield func(int) bool) {
		for n := 0; n < last-1; n += 1 + last/tries {
			if !yield(n) {
				return
			}
		}
		for n := max(0, last-1); n <= last; n++ {
			if !yield(n) {
				return
			}
		}
	}
}

// holdsAt tells what is wrong with one fuel: below, no less may be done than above, and no more than above with more fuel.
func (p Pair) holdsAt(g Given, fuel int, far api.Run) string {
	above, below := p.Upper(g.Args, g.World, fuel), p.Lower(g.Args, g.World, p.fuel(fuel))
	isRight := isBetween(below, above, far) && (below.Kind == api.Halt || above.Kind == api.Fuel)
	if !isRight {
		return told("with fuel "+strconv.Itoa(fuel), below, above)
	}
	if below = p.Lower(g.Args, g.World, fuel); !isBetween(below, api.Run{}, far) {
		return told("with fuel "+strconv.Itoa(fuel)+" at both", below, above)
	}
	return ""
}

// isBetween tells whether a run goes as far as one, and no farther than another.
func isBetween(r, near, far api.Run) bool {
	if !trace.Prefix(near.Events, r.Events) || !trace.Prefix(r.Events, far.Events) {
		return false
	}
	return r.Kind == api.Fuel || r.Kind == api.Halt && trace.Same(r, far)
}

func told(how string, below, above api.Run) string {
	return how + ": " + trace.Text(below) + "where it is, above, " + trace.Text(above)
}

// LeakTheSame asks whether two runs that leak the same above, at each fuel, and are not Stuck, do so below. It tells whether they do above, and what is wrong, if something is.
func (p Pair) LeakTheSame(one, two Given) (isAsked bool, fault string) {
	whole := p.Upper(one.Args, one.World, p.Most)
	if whole.Kind == api.Stuck || alike(p.Upper, one, two, p.Most) != "" {
		return false, ""
	}
	for fuel := range some(whole.Steps) {
		if alike(p.Upper, one, two, fuel) != "" {
			return false, ""
		}
	}
	last := whole.Steps / p.leap()
	if whole.Kind == api.Halt {
		last = p.Lower(one.Args, one.World, p.fuel(whole.Steps)).Steps
	}
	for fuel := range some(last) {
		if fault := alike(p.Lower, one, two, fuel); fault != "" {
			return true, fault
		}
	}
	return true, ""
}

// alike tells how two runs leak unlike things, or take unlike steps, if they do.
func alike(level Level, one, two Given, fuel int) string {
	a, b := level(one.Args, one.World, fuel), level(two.Args, two.World, fuel)
	if trace.Leaks(a, b) && a.Steps == b.Steps {
		return ""
	}
	return "with fuel " + strconv.Itoa(fuel) + ": " + trace.Text(a) + "in " + strconv.Itoa(a.Steps) + " steps leaks not what is leaked by " + trace.Text(b) + "in " + strconv.Itoa(b.Steps) + " steps"
}
