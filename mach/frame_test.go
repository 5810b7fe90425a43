package mach_test

import (
	"fmt"
	"math/rand"
	"slices"
	"testing"

	"plumbob/alloc"
	"plumbob/api"
	"plumbob/graphs"
	"plumbob/linear"
	"plumbob/mach"
	"plumbob/rtl"
	"plumbob/sample"
)

// TestFrames has functions that keep nothing, a block, slots, registers, and all of these.
func TestFrames(t *testing.T) {
	nothingKept := function(0, row(constant(0, 3), leave())...)
	p := stacked(t, program(
		named("main", function(6, row(both(api.Add, 7, 6, 0), both(api.Mul, 2, 1, 2), both(api.Sub, 8, 9, 9), call(1, 0), leave())...)),
		named("nothing", nothingKept), named("", framed(1, nothingKept)), named("empty", framed(0, nothingKept)), named("8", framed(8, nothingKept)), named("15", framed(15, nothingKept)), named("16", framed(16, nothingKept)), named("17", framed(17, nothingKept)), named("all", framed(api.MaxSize, nothingKept)), named("nearly all", framed(api.MaxSize-1, nothingKept)),
		named("a register", keeper(0, 0, 1)), named("two", keeper(0, 0, 2)), named("three", keeper(0, 0, 3)), named("six", keeper(0, 0, 6)), named("a slot", keeper(0, 1, 0)), named("two slots", keeper(0, 2, 0)), named("three slots", keeper(0, 3, 0)), named("one of each", keeper(1, 1, 1)), named("many", keeper(1000, 4000, 6)),
		named("a far slot", framed(0, rtl.Func{Regs: 5000, Code: row(constant(4999, 1), move(4999, 0), leave())})), named("pointer", framed(0, function(0, row(home(0, 0), leave())...))),
		named("twice", framed(40, nothingKept)), named("twice", framed(80, nothingKept)), named("\xff\x00", framed(33, nothingKept)),
	))
	for name, want := range map[string]int{
		"main": 0, "nothing": 0, "empty": 0, "": 16, "8": 16, "15": 16, "16": 16, "17": 32, "all": api.MaxSize, "nearly all": api.MaxSize,
		"a register": 16, "two": 16, "three": 32, "six": 48, "a slot": 16, "two slots": 16, "three slots": 32, "one of each": 32, "many": 33056, "a far slot": 16, "pointer": 16, "twice": 48, "\xff\x00": 48,
	} {
		if n, e := p.Frame(name); e != api.OK || n != want {
			t.Errorf("P19.1: Frame(%q): %d (%d), want %d", name, n, e, want)
		}
	}
	for _, name := range []string{"Main", "main ", " ", "f", "f0", "\xff", "0", "nothingKept", "one of", "MAIN"} {
		if n, e := p.Frame(name); e != api.ENONE || n != 0 {
			t.Errorf("P19.1: Frame(%q): %d (%d)", name, n, e)
		}
	}
}

// kinds counts functions by what they keep.
type kinds struct{ nothing, block, slots, registers, all int }

// keeps tells what a function keeps: how many slots it names, how many registers it writes that are its caller's, and of how many such ones it just reads, though they have no value.
func keeps(f linear.Func) (slots, written, read int) {
	count := map[int]int{}
	for _, i := range f.Code {
		for loc := range rtl.Uses(i.Deed) {
			count[loc] |= 1
		}
		if loc, ok := rtl.Target(i.Deed); ok {
			count[loc] |= 2
		}
	}
	for loc, how := range count {
		switch {
		case loc >= 16:
			slots++
		case slices.Contains(kept, loc) && how >= 2:
			written++
		case slices.Contains(kept, loc):
			read++
		}
	}
	return slots, written, read
}

// asked asks the frames of all functions of a program.
func (c *kinds) asked(t *testing.T, p rtl.Prog) {
	t.Helper()
	for n := range p.Funcs {
		p.Funcs[n].Name = fmt.Sprint("f", n)
	}
	rows := flat(t, p)
	made, e := mach.Stack(rows)
	if e != api.OK {
		t.Fatalf("P19.1: Stack of %s: %d", rows.Text(), e)
	}
	for n, f := range rows.Parts().Functions {
		slots, written, read := keeps(f)
		bytes, e := made.Frame(fmt.Sprint("f", n))
		least := (f.Frame+7)/8*8 + 8*(slots+written)
		if e != api.OK || bytes%16 != 0 || bytes < least || bytes > least+8*read+15 && least+read > 0 {
			t.Fatalf("P19.1: Frame of f%d: %d (%d); a block of %d bytes, %d slots, %d registers, %d besides: %s", n, bytes, e, f.Frame, slots, written, read, rows.Text())
		}
		switch {
		case least+read > 0 && f.Frame > 0 && slots > 0 && written > 0:
			c.all++
		case written > 0:
			c.registers++
		case slots > 0:
			c.slots++
		case f.Frame > 0:
			c.block++
		case read == 0 && bytes == 0:
			c.nothing++
		}
	}
}

// TestFramesByChance has functions made by chance: of sources, of graphs over registers, over locations as such.
func TestFramesByChance(t *testing.T) {
	t.Parallel()
	var c kinds
	for seed := range int64(800) {
		r := rand.New(rand.NewSource(seed))
		over := graphs.New(r.Intn, int(seed%3)*40).Program()
		c.asked(t, graphs.Located(over, in(shuffled(r, nameable([]int{16, 24, 40}[r.Intn(3)])))))
		if p, e := alloc.Allocate(over); e == api.OK {
			c.asked(t, p)
		}
		c.asked(t, graphs.Renamed(graphs.Wild(r.Intn, 0), in(shuffled(r, nameable(18)))))
		if seed%10 == 0 {
			_, p := down(t, sample.New(r.Intn, 0).Program(), seed%20 == 0)
			c.asked(t, p)
		}
	}
	t.Logf("%+v", c)
	if c.nothing < 100 || c.block < 100 || c.slots < 100 || c.registers < 300 || c.all < 200 {
		t.Errorf("P19.1: those made by chance keep %+v", c)
	}
}
