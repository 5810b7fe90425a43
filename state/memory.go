package state

import (
	"plumbob/api"
	"plumbob/val"
)

// Load tells what so many bytes hold, and shows where they are.
func (s *State) Load(chunk int, at api.Val) (api.Val, bool) {
	if !s.reach(at) {
		return api.Val{}, false
	}
	return s.known(s.memory.Load(chunk, at))
}

// Store lays a value into so many bytes, and shows where they are.
func (s *State) Store(chunk int, at, v api.Val) bool {
	return s.reach(at) && (s.memory.Store(chunk, at, v) || s.End(api.Stuck))
}

// reach shows the address of an access.
func (s *State) reach(at api.Val) bool {
	if at.Kind != api.Ptr {
		return s.End(api.Stuck)
	}
	s.Show(api.Addr, int64(at.Block), at.N)
	return true
}

// Block makes a block, of no bytes too, and tells its number.
func (s *State) Block(size int) (int, bool) {
	block, e := s.memory.Alloc(size)
	if e != api.OK {
		return 0, s.End(api.Stuck)
	}
	return block, true
}

// Free frees one.
func (s *State) Free(block int) { s.memory.Free(block) }

// Globals makes the blocks of all globals, of such sizes, and tells the pointers to them.
func (s *State) Globals(sizes []int) ([]api.Val, bool) {
	var l []api.Val
	for _, size := range sizes {
		block, ok := s.Block(size)
		if !ok {
			return nil, false
		}
		s.memory.Zero(block)
		l = append(l, val.At(block, 0))
	}
	return l, true
}

// lay makes a block, and tells its number. Of no bytes none is made: a source makes none there, and how many there may be is limited.
func (s *State) lay(size int) (int, bool) {
	if size == 0 {
		return 0, true
	}
	return s.Block(size)
}

// Frame is the memory of a call.
type Frame struct {
	low, high int // the blocks that have the bytes below the cut, and those from it on; 0, if there are none
	cut       int64
}

// Enter makes the memory of a call: so many bytes, and those from the cut on in a block of their own.
func (s *State) Enter(size, cut int) (Frame, bool) {
	low, ok := s.lay(cut)
	if !ok {
		return Frame{}, false
	}
	high, ok := s.lay(size - cut)
	if !ok {
		return Frame{}, false
	}
	return Frame{low, high, int64(cut)}, true
}

// Leave frees it.
func (s *State) Leave(f Frame) {
	s.Free(f.low)
	s.Free(f.high)
}

// At tells the pointer to a byte of it.
func (f Frame) At(n int64) api.Val {
	if n < f.cut {
		return val.At(f.low, n)
	}
	return val.At(f.high, n-f.cut)
}
