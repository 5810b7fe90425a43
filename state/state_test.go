package state

import (
	"fmt"
	"testing"

	"plumbob/api"
	"plumbob/trace"
	"plumbob/val"
)

func TestFuel(t *testing.T) {
	s := New(nil, 5)
	for _, c := range []struct {
		steps, used int
		want        bool
	}{{0, 0, true}, {2, 2, true}, {3, 5, true}, {0, 5, true}, {1, 5, false}} {
		if ok := s.Use(c.steps); ok != c.want || s.Run.Steps != c.used || (s.Run.Kind == api.Fuel) == ok {
			t.Errorf("Use(%d): %t, %+v", c.steps, ok, s.Run)
		}
	}
	// Where there is less than is asked, all of it is used.
	s = New(nil, 5)
	if s.Use(3) && s.Use(1<<62) || s.Run.Steps != 5 || s.Run.Kind != api.Fuel {
		t.Errorf("Use: %+v", s.Run)
	}
}

func TestEvents(t *testing.T) {
	s := New([]int64{7}, 1)
	if v, w := s.Input(), s.Input(); v != val.Of(7) || w != val.Of(0) || !s.Output(val.Of(-3)) {
		t.Errorf("Input: %v, %v", v, w)
	}
	s.Halt(val.Of(9))
	if text := trace.Text(s.Run); text != "in 7\nin 0\nout -3\nhalt 9\n" {
		t.Errorf("%q", text)
	}
	for _, v := range []api.Val{{}, val.At(1, 0)} {
		s, o := New(nil, 1), New(nil, 1)
		s.Halt(v)
		if s.Run.Kind != api.Stuck || o.Output(v) || o.Run.Kind != api.Stuck || len(o.Run.Events) > 0 {
			t.Errorf("%v: %+v, %+v", v, s.Run, o.Run)
		}
	}
}

func TestOperations(t *testing.T) {
	s := New(nil, 1)
	s.Binary(api.Div, val.Of(7), val.Of(2))
	s.Binary(api.Mul, val.Of(7), val.Of(2))
	s.Unary(api.Neg, val.Of(7))
	s.Branch(val.At(1, 2))
	s.Branch(val.Of(0))
	if want := []api.Leak{{Kind: api.Divide, A: 7, B: 2}, {Kind: api.Branch, A: 1}, {Kind: api.Branch}}; fmt.Sprint(s.Run.Leaks) != fmt.Sprint(want) || s.Run.Kind != 0 {
		t.Errorf("%+v", s.Run)
	}
	// What has no meaning ends it; a division by 0 is shown first.
	for _, f := range []func(*State) bool{
		func(s *State) bool { _, ok := s.Unary(api.Neg, api.Val{}); return ok },
		func(s *State) bool { _, ok := s.Binary(api.Div, val.At(1, 0), val.Of(2)); return ok },
		func(s *State) bool { _, ok := s.Binary(api.Shl, val.Of(1), val.Of(64)); return ok },
		func(s *State) bool { _, ok := s.Branch(api.Val{}); return ok },
		func(s *State) bool { _, ok := s.Load(4, val.Of(0)); return ok },
		func(s *State) bool { return s.Store(4, api.Val{}, val.Of(0)) },
	} {
		s := New(nil, 1)
		if f(&s) || s.Run.Kind != api.Stuck || len(s.Run.Leaks) > 0 {
			t.Errorf("%+v", s.Run)
		}
	}
	s = New(nil, 1)
	if _, ok := s.Binary(api.Mod, val.Of(7), val.Of(0)); ok || len(s.Run.Leaks) != 1 {
		t.Errorf("%+v", s.Run)
	}
}

func TestMemory(t *testing.T) {
	s := New(nil, 1)
	globals, ok := s.Globals([]int{4, 8})
	if !ok || len(globals) != 2 || globals[1] != val.At(2, 0) {
		t.Fatalf("Globals: %v", globals)
	}
	if v, ok := s.Load(8, globals[1]); !ok || v != val.Of(0) {
		t.Errorf("a global: %v", v)
	}
	// A frame is one block, but where it is cut.
	whole, _ := s.Enter(16, 16)
	cut, _ := s.Enter(24, 8)
	none, _ := s.Enter(0, 0)
	for _, c := range []struct {
		got, want api.Val
	}{{whole.At(0), val.At(3, 0)}, {whole.At(15), val.At(3, 15)}, {cut.At(7), val.At(4, 7)}, {cut.At(8), val.At(5, 0)}, {cut.At(23), val.At(5, 15)}, {none.At(0), api.Val{}}} {
		if c.got != c.want {
			t.Errorf("At: %v, want %v", c.got, c.want)
		}
	}
	if !s.Store(8, cut.At(16), val.Of(6)) {
		t.Errorf("Store: %+v", s.Run)
	}
	if v, ok := s.Load(8, val.At(5, 8)); !ok || v != val.Of(6) {
		t.Errorf("Load: %v", v)
	}
	s.Leave(cut)
	if _, ok := s.Load(8, val.At(5, 8)); ok || s.Run.Kind != api.Stuck || len(s.Run.Leaks) != 4 {
		t.Errorf("Leave: %+v", s.Run)
	}
	if _, ok := s.Enter(api.MaxSize+1, api.MaxSize+1); ok {
		t.Errorf("Enter: a block above MaxSize")
	}
}

// TestBlock: of no bytes one is made, too; freed, it can't be reached.
func TestBlock(t *testing.T) {
	s := New(nil, 1)
	globals, ok := s.Globals([]int{0, 8})
	if !ok || globals[0] != val.At(1, 0) || globals[1] != val.At(2, 0) {
		t.Errorf("Globals: %v", globals)
	}
	for want, size := range []int{0, 8, 0} {
		if block, ok := s.Block(size); !ok || block != want+3 {
			t.Errorf("Block(%d): %d, want %d", size, block, want+3)
		}
	}
	if !s.Store(8, val.At(4, 0), val.Of(1)) {
		t.Errorf("Store: %+v", s.Run)
	}
	s.Free(4)
	if s.Store(8, val.At(4, 0), val.Of(1)) || s.Run.Kind != api.Stuck {
		t.Errorf("Store to what is freed: %+v", s.Run)
	}
	if _, ok := s.Block(-1); ok {
		t.Errorf("Block: one of -1 bytes")
	}
}
