package mem

import (
	"plumbob/api"
	"plumbob/val"
)

const wordBytes = 8

// word is eight bytes of a block. An access that is right lies within one word, since its chunk divides its byte;
// and a pointer fills a whole word, so that its part i is never elsewhere than in byte i.
// Whatever the masks don't tell of is 0: so words of the same bytes are equal.
type word struct {
	known uint8   // the bytes that are numbers, the lowest bit for byte 0
	parts uint8   // the bytes that are parts of ptr
	bits  uint64  // the numbers
	ptr   api.Val // the pointer, if parts are left of it
}

// lanes are the bytes of a word that an access is of.
type lanes struct {
	chunk int
	shift int    // how many bits of the word are below them
	mask  uint8  // a bit for each of them
	wide  uint64 // eight bits for each of them
}

func lanesOf(chunk, at int) lanes {
	below := at % wordBytes
	return lanes{
		chunk: chunk,
		shift: 8 * below,
		mask:  low(chunk) << below,
		wide:  lowWide(chunk) << (8 * below),
	}
}

// low is a mask of the lowest bytes, up to 8 of them. Of 8 the 1 is shifted out, and 0 - 1 is all bits.
func low(count int) uint8 { return uint8(1)<<count - 1 }

// lowWide is low with eight bits a byte.
func lowWide(count int) uint64 { return uint64(1)<<(8*count) - 1 }

// zeros is a word whose lowest bytes are 0, the others unknown; count may be any.
func zeros(count int) word {
	return word{known: low(max(0, min(count, wordBytes)))}
}

func (w word) load(l lanes) api.Val {
	switch {
	case w.known&l.mask == l.mask:
		return number(l.chunk, w.bits>>l.shift)
	case w.parts&l.mask == l.mask && l.chunk == wordBytes:
		return w.ptr
	}
	return api.Val{}
}

// number is the Int whose lowest bytes are given, with the sign of so many bytes.
func number(chunk int, bits uint64) api.Val {
	switch chunk {
	case 1:
		return val.Of(int64(int8(bits)))
	case 4:
		return val.Of(int64(int32(bits)))
	}
	return val.Of(int64(bits))
}

// store takes a value that may be; a pointer with all eight bytes alone.
func (w *word) store(l lanes, v api.Val) {
	w.forget(l)
	switch v.Kind {
	case api.Int:
		w.known |= l.mask
		w.bits |= uint64(v.N) << l.shift & l.wide
	case api.Ptr:
		w.parts = l.mask
		w.ptr = v
	}
}

// forget makes bytes unknown.
func (w *word) forget(l lanes) {
	w.known &^= l.mask
	w.bits &^= l.wide
	w.parts &^= l.mask
	if w.parts == 0 {
		w.ptr = api.Val{}
	}
}
