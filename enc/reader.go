package enc

import (
	"bytes"
	"iter"
	"sort"

	"plumbob/asm"
)

// reader reads an image's instructions. What it knows of functions and globals it makes when it is first asked for.
type reader struct {
	Image
	functions map[int]int // by offset, the first one that starts there
	places    []place
	isRising  bool // do the places rise?
}

// extent is from where to where an instruction stands.
type extent struct{ from, to int }

// each gives those that stand one behind the other from an offset on, till one reaches an end, or none is there.
func (r *reader) each(from, end int) iter.Seq2[extent, asm.Ins] {
	return func(yield func(extent, asm.Ins) bool) {
		for at := from; at < end; {
			i, size, ok := r.read(at)
			if !ok || !yield(extent{at, at + size}, i) {
				return
			}
			at += size
		}
	}
}

// read tells the instruction at an offset of the code, and how many bytes it has. It guesses, and lays what it has guessed: so there is no byte of it that is not asked.
func (r *reader) read(at int) (asm.Ins, int, bool) {
	var from window
	copy(from[:], r.Code[at:])
	i := guess(&from)
	if i.Op == 0 {
		return asm.Ins{}, 0, false
	}
	var room [longest]byte
	laid := code(room[:0]).instruction(&i)
	if !bytes.HasPrefix(r.Code[at:], laid) || !r.join(&i, at+len(laid)) || !asm.Formed(i) {
		return asm.Ins{}, 0, false
	}
	return i, len(laid), true
}

// join makes of how far one goes, from the offset behind it, what stands there.
func (r *reader) join(i *asm.Ins, behind int) bool {
	goal, ok := behind+int(i.K), true
	switch i.Op {
	case wideK:
		i.Op = asm.MovK
	case asm.Jmp, asm.Jcc:
		i.K, i.L = 0, goal
		return goal >= 0 && goal <= len(r.Code)
	case asm.Call:
		i.K = 0
		i.Sub, ok = r.function(goal)
	case asm.LeaG:
		i.Sub, i.K, ok = r.global(int64(goal))
	}
	return ok
}

// function tells which one starts at an offset.
func (r *reader) function(start int) (int, bool) {
	if r.functions == nil {
		r.functions = map[int]int{}
		for n, at := range r.Starts {
			if _, isThere := r.functions[at]; !isThere {
				r.functions[at] = n
			}
		}
	}
	n, ok := r.functions[start]
	return n, ok
}

// global tells the first one that has a byte at such a place, and which byte that is.
func (r *reader) global(at int64) (int, int64, bool) {
	if r.places == nil {
		r.places = placesOf(r.Globals)
		r.isRising = true
		for _, size := range r.Globals {
			r.isRising = r.isRising && size >= 0
		}
	}
	first := 0
	if r.isRising {
		// The last one that does not stand behind it is the only one that may have it.
		behind := sort.Search(len(r.places), func(n int) bool { return r.places[n].to(at).isNegative() })
		first = max(behind-1, 0)
	}
	for n := first; n < len(r.places); n++ {
		if k := r.places[n].to(at); k.within(int64(r.Globals[n])) {
			return n, int64(k.lower), true
		}
	}
	return 0, 0, false
}
