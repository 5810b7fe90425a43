package rtl

import (
	"fmt"
	"testing"

	"plumbob/api"
)

// TestExample is the chapter's.
func TestExample(t *testing.T) {
	runs(t, alone(2, Instr{Op: In, D: 0, S: 1}, Instr{Op: Bin, Sub: api.Add, A: 0, B: none, K: 1, D: 1, S: 2}, Instr{Op: Return, A: 1}), nil, l(4), "i4 halt 5 3")
}

func TestRefused(t *testing.T) {
	p := Prog{Main: 1, Funcs: []Func{{Code: []Instr{{Op: Return, A: none}}}, {Params: []int{1, 0}, Regs: 2, Code: []Instr{{Op: Return, A: 1}}}}}
	wrong := p
	wrong.Main = 2
	for _, c := range []struct {
		p    Prog
		args []int64
		fuel int
		want api.Errno
	}{
		{p, l(5, 6), 10, api.OK}, {p, l(5, 6), 0, api.OK}, {p, l(5, 6), 10000000, api.OK}, {p, l(lowest, highest), 1, api.OK},
		{p, nil, 10, api.EARG}, {p, l(5), 10, api.EARG}, {p, l(5, 6, 7), 10, api.EARG},
		{p, l(5, 6), -1, api.EARG}, {p, l(5, 6), 10000001, api.EARG}, {p, l(5, 6), lowest, api.EARG}, {p, l(5, 6), highest, api.EARG},
		{wrong, nil, 10, api.EARG}, {wrong, l(5, 6), 10, api.EARG}, {Prog{}, nil, 10, api.EARG},
	} {
		r, e := Run(c.p, c.args, l(1), c.fuel)
		if e != c.want || e != api.OK && fmt.Sprint(r) != fmt.Sprint(api.Run{}) {
			t.Errorf("P12.1: Run(%v, %d): %d, %s", c.args, c.fuel, e, told(r))
		}
		if e != api.OK {
			continue
		}
		if want := map[bool]string{true: "fuel 0", false: fmt.Sprintf("halt %d 1", c.args[0])}[c.fuel == 0]; told(r) != want {
			t.Errorf("P12.1: Run(%v, %d): %s, want %s", c.args, c.fuel, told(r), want)
		}
	}
}

// TestEachOp has each Op by itself. Register 0 is what it makes; 1 and 2 are main's arguments; 3 points to the byte 8 of a global of 16 bytes (the block 2); 4 to the frame (the block 3); 5 is Undef.
func TestEachOp(t *testing.T) {
	for _, c := range []struct {
		i    Instr
		args []int64
		want string
	}{
		{Instr{Op: Nop}, l(1, 2), "stuck 4"},
		{Instr{Op: Const, K: 7}, l(1, 2), "halt 7 4"},
		{Instr{Op: Const, K: lowest}, l(1, 2), "halt -9223372036854775808 4"},
		{Instr{Op: Copy, A: 1}, l(1, 2), "halt 1 4"},
		{Instr{Op: Copy, A: 2}, l(1, 2), "halt 2 4"},
		{Instr{Op: Copy, A: 3}, l(1, 2), "stuck 4"},
		{Instr{Op: Copy, A: 5}, l(1, 2), "stuck 4"},
		{Instr{Op: Un, Sub: api.Neg, A: 1}, l(5, 2), "halt -5 4"},
		{Instr{Op: Un, Sub: api.Not, A: 1}, l(5, 2), "halt -6 4"},
		{Instr{Op: Un, Sub: api.Ext8, A: 1}, l(200, 2), "halt -56 4"},
		{Instr{Op: Un, Sub: api.Ext32, A: 1}, l(1<<31, 2), "halt -2147483648 4"},
		{Instr{Op: Un, Sub: api.Neg, A: 3}, l(1, 2), "stuck 3"},
		{Instr{Op: Un, Sub: api.Neg, A: 5}, l(1, 2), "stuck 3"},
		{Instr{Op: Bin, Sub: api.Sub, A: 1, B: 2}, l(9, 4), "halt 5 4"},
		{Instr{Op: Bin, Sub: api.Sub, A: 2, B: 1}, l(9, 4), "halt -5 4"},
		{Instr{Op: Bin, Sub: api.Sub, A: 1, B: 2, K: 100}, l(9, 4), "halt 5 4"},
		{Instr{Op: Bin, Sub: api.Sub, A: 1, B: none, K: 100}, l(9, 4), "halt -91 4"},
		{Instr{Op: Bin, Sub: api.Sub, A: 1, B: none}, l(9, 4), "halt 9 4"},
		{Instr{Op: Bin, Sub: api.Mul, A: 1, B: 1}, l(1<<32, 4), "halt 0 4"},
		{Instr{Op: Bin, Sub: api.Lt, A: 1, B: 2}, l(3, 4), "halt 1 4"},
		{Instr{Op: Bin, Sub: api.Div, A: 1, B: 2}, l(-7, 2), "d-7/2 halt -3 4"},
		{Instr{Op: Bin, Sub: api.Mod, A: 1, B: 2}, l(-7, 2), "d-7/2 halt -1 4"},
		{Instr{Op: Bin, Sub: api.Div, A: 1, B: none, K: -3}, l(7, 2), "d7/-3 halt -2 4"},
		{Instr{Op: Bin, Sub: api.Mod, A: 1, B: none, K: 3}, l(7, 2), "d7/3 halt 1 4"},
		{Instr{Op: Bin, Sub: api.Div, A: 1, B: 2}, l(7, 0), "d7/0 stuck 3"},
		{Instr{Op: Bin, Sub: api.Mod, A: 1, B: none}, l(7, 1), "d7/0 stuck 3"},
		{Instr{Op: Bin, Sub: api.Div, A: 1, B: 2}, l(lowest, -1), "d-9223372036854775808/-1 stuck 3"},
		{Instr{Op: Bin, Sub: api.Div, A: 3, B: 2}, l(7, 1), "stuck 3"},
		{Instr{Op: Bin, Sub: api.Mod, A: 2, B: 3}, l(7, 1), "stuck 3"},
		{Instr{Op: Bin, Sub: api.Div, A: 5, B: none, K: 1}, l(7, 1), "stuck 3"},
		{Instr{Op: Bin, Sub: api.Div, A: 1, B: 5}, l(7, 1), "stuck 3"},
		{Instr{Op: Bin, Sub: api.Shl, A: 1, B: 2}, l(1, 64), "stuck 3"},
		{Instr{Op: Bin, Sub: api.Shr, A: 1, B: none, K: -1}, l(1, 64), "stuck 3"},
		{Instr{Op: Bin, Sub: api.Add, A: 5, B: 1}, l(1, 2), "stuck 3"},
		{Instr{Op: Bin, Sub: api.Eq, A: 3, B: none}, l(1, 2), "halt 0 4"},
		{Instr{Op: Bin, Sub: api.Ne, A: 3, B: 4}, l(1, 2), "halt 1 4"},
		{Instr{Op: Bin, Sub: api.Eq, A: 3, B: none, K: 1}, l(1, 2), "stuck 3"},
		{Instr{Op: Bin, Sub: api.Lt, A: 3, B: 3}, l(1, 2), "stuck 3"},
		{Instr{Op: Load, Sub: 8, A: 3}, l(1, 2), "a2+8 halt 0 4"},
		{Instr{Op: Load, Sub: 4, A: 3, K: 4}, l(1, 2), "a2+12 halt 0 4"},
		{Instr{Op: Load, Sub: 1, A: 3, K: -8}, l(1, 2), "a2+0 halt 0 4"},
		{Instr{Op: Load, Sub: 8, A: 3, K: 8}, l(1, 2), "a2+16 stuck 3"},
		{Instr{Op: Load, Sub: 1, A: 3, K: -9}, l(1, 2), "a2+-1 stuck 3"},
		{Instr{Op: Load, Sub: 4, A: 3, K: 2}, l(1, 2), "a2+10 stuck 3"},
		{Instr{Op: Load, Sub: 8, A: 3, K: highest}, l(1, 2), "a2+-9223372036854775801 stuck 3"},
		{Instr{Op: Load, Sub: 8, A: 4}, l(1, 2), "a3+0 stuck 4"},
		{Instr{Op: Load, Sub: 8, A: 1}, l(1, 2), "stuck 3"},
		{Instr{Op: Load, Sub: 8, A: 5}, l(1, 2), "stuck 3"},
		{Instr{Op: Global, Sub: 1, K: 16}, l(1, 2), "stuck 4"},
		{Instr{Op: Frame, K: 24}, l(1, 2), "stuck 4"},
		{Instr{Op: In}, l(1, 2), "i77 halt 77 4"},
		{Instr{Op: Out, A: 1}, l(1, 2), "o1 stuck 4"},
		{Instr{Op: Out, A: 2}, l(1, lowest), "o-9223372036854775808 stuck 4"},
		{Instr{Op: Out, A: 3}, l(1, 2), "stuck 3"},
		{Instr{Op: Out, A: 5}, l(1, 2), "stuck 3"},
		{Instr{Op: Return, A: 2}, l(1, 2), "halt 2 3"},
		{Instr{Op: Return, A: 3}, l(1, 2), "stuck 3"},
		{Instr{Op: Return, A: 5}, l(1, 2), "stuck 3"},
		{Instr{Op: Return, A: none}, l(1, 2), "stuck 3"},
		{Instr{Op: Store, Sub: 8, A: 5, B: 1}, l(1, 2), "stuck 3"},
		{Instr{Op: Store, Sub: 8, A: 1, B: 1}, l(1, 2), "stuck 3"},
		{Instr{Op: Store, Sub: 4, A: 3, B: 3}, l(1, 2), "a2+8 stuck 3"},
		{Instr{Op: Store, Sub: 8, A: 3, B: 1, K: 4}, l(1, 2), "a2+12 stuck 3"},
		{Instr{Op: Store, Sub: 8, A: 3, B: 3}, l(1, 2), "a2+8 stuck 4"},
		{Instr{Op: Cond, Sub: api.Lt, A: 5, B: 1}, l(1, 2), "stuck 3"},
		{Instr{Op: Cond, Sub: api.Lt, A: 3, B: 3}, l(1, 2), "stuck 3"},
		{Instr{Op: Cond, Sub: api.Eq, A: 3, B: none, K: 1}, l(1, 2), "stuck 3"},
	} {
		code := row(Instr{Op: Global, Sub: 1, K: 8, D: 3}, Instr{Op: Frame, D: 4}, c.i, Instr{Op: Return})
		p := Prog{Globals: []int{0, 16}, Funcs: []Func{{Params: []int{1, 2}, Regs: 6, Frame: 24, Code: code}}}
		runs(t, p, c.args, l(77), c.want)
	}
}

// TestMemory: what is stored is loaded, of each size, also Undef and pointers.
func TestMemory(t *testing.T) {
	ends := func(chunk, back int, b int) []Instr {
		return row(Instr{Op: Frame, K: 8, D: 1}, Instr{Op: Store, Sub: chunk, A: 1, B: b, K: 8}, Instr{Op: Load, Sub: back, A: 1, K: 8, D: 2}, Instr{Op: Return, A: 2})
	}
	for _, c := range []struct {
		chunk, back, b int
		want           string
	}{
		{8, 8, 0, "a1+16 a1+16 halt 84281096 4"}, {8, 4, 0, "a1+16 a1+16 halt 84281096 4"}, {8, 1, 0, "a1+16 a1+16 halt 8 4"},
		{4, 4, 0, "a1+16 a1+16 halt 84281096 4"}, {4, 8, 0, "a1+16 a1+16 stuck 4"}, {1, 4, 0, "a1+16 a1+16 stuck 4"}, {1, 1, 0, "a1+16 a1+16 halt 8 4"},
		{8, 8, 3, "a1+16 a1+16 stuck 4"}, {8, 8, 1, "a1+16 a1+16 stuck 4"}, {8, 4, 1, "a1+16 a1+16 stuck 4"}, {4, 4, 1, "a1+16 stuck 2"},
	} {
		runs(t, Prog{Funcs: []Func{{Params: []int{0}, Regs: 4, Frame: 24, Code: ends(c.chunk, c.back, c.b)}}}, l(0x5060708), nil, c.want)
	}
	// A pointer that was stored leads where it led; a global keeps what a call stores.
	through := Prog{Globals: []int{8}, Funcs: []Func{
		{Regs: 3, Code: row(Instr{Op: Call, Sub: 1, D: none}, Instr{Op: Global, D: 0}, Instr{Op: Load, Sub: 8, A: 0, D: 1}, Instr{Op: Return, A: 1})},
		{Regs: 4, Frame: 16, Code: row(
			Instr{Op: Frame, D: 0}, Instr{Op: Global, D: 1}, Instr{Op: Store, Sub: 8, A: 0, B: 1, K: 8}, Instr{Op: Load, Sub: 8, A: 0, D: 2, K: 8},
			Instr{Op: Const, K: 9, D: 3}, Instr{Op: Store, Sub: 8, A: 2, B: 3}, Instr{Op: Return, A: none})},
	}}
	runs(t, through, nil, nil, "c1 a3+8 a3+8 a1+0 a1+0 halt 9 11")
	// A pointer to a frame that is freed leads nowhere.
	freed := Prog{Funcs: []Func{
		{Regs: 2, Code: row(Instr{Op: Call, Sub: 1, D: 0}, Instr{Op: Load, Sub: 1, A: 0, D: 1}, Instr{Op: Return, A: 1})},
		{Regs: 2, Frame: 8, Code: row(Instr{Op: Frame, D: 0}, Instr{Op: Store, Sub: 8, A: 0, B: 1}, Instr{Op: Return, A: 0})},
	}}
	runs(t, freed, nil, nil, "c1 a2+0 a2+0 stuck 5")
}

// TestBranches: S, if it holds, else T.
func TestBranches(t *testing.T) {
	for _, c := range []struct {
		i    Instr
		args []int64
		want string
	}{
		{Instr{Sub: api.Lt, A: 0, B: 1}, l(1, 2), "b1 halt 11 3"}, {Instr{Sub: api.Lt, A: 0, B: 1}, l(2, 2), "b0 halt 22 3"}, {Instr{Sub: api.Lt, A: 1, B: 0}, l(1, 2), "b0 halt 22 3"},
		{Instr{Sub: api.Ge, A: 0, B: none, K: 5}, l(5, 9), "b1 halt 11 3"}, {Instr{Sub: api.Ge, A: 0, B: none, K: 5}, l(4, 9), "b0 halt 22 3"}, {Instr{Sub: api.Ge, A: 0, B: 1, K: 5}, l(4, 3), "b1 halt 11 3"},
		{Instr{Sub: api.Eq, A: 0, B: none}, l(0, 9), "b1 halt 11 3"}, {Instr{Sub: api.Ne, A: 0, B: none}, l(0, 9), "b0 halt 22 3"}, {Instr{Sub: api.Le, A: 0, B: 1}, l(-5, -5), "b1 halt 11 3"}, {Instr{Sub: api.Gt, A: 0, B: 1}, l(-5, -5), "b0 halt 22 3"},
	} {
		c.i.Op, c.i.S, c.i.T = Cond, 4, 2
		p := alone(2, Instr{Op: Const, D: 0, K: 11, S: 1}, Instr{Op: Return, A: 0}, Instr{Op: Const, D: 0, K: 22, S: 1}, c.i, Instr{Op: Const, D: 0, K: 11, S: 1})
		p.Funcs[0].Params, p.Funcs[0].Entry = []int{0, 1}, 3
		runs(t, p, c.args, nil, c.want)
	}
	same := alone(1, Instr{Op: Cond, Sub: api.Eq, A: 0, B: 0, S: 1, T: 1}, Instr{Op: Return, A: 0})
	same.Funcs[0].Params = []int{0}
	runs(t, same, l(6), nil, "b1 halt 6 2")
}

// TestWorld: behind the last number comes 0, ever again.
func TestWorld(t *testing.T) {
	ring := alone(1, Instr{Op: In, S: 1}, Instr{Op: Out, S: 0})
	if r, e := Run(ring, nil, l(5, -6), 9); e != api.OK || told(r) != "i5 o5 i-6 o-6 i0 o0 i0 o0 i0 fuel 9" {
		t.Errorf("P12.1: %s", told(r))
	}
}

// TestCalls: each call has registers of its own, and its answer goes to D, or is dropped.
func TestCalls(t *testing.T) {
	minus := Func{Name: "minus", Params: []int{2, 0}, Regs: 3, Code: []Instr{{Op: Bin, Sub: api.Sub, A: 2, B: 0, D: 1, S: 1}, {Op: Return, A: 1}}}
	nothing := Func{Name: "nothing", Regs: 1, Code: []Instr{{Op: Return, A: none}}}
	for _, c := range []struct {
		code []Instr
		want string
	}{
		{row(Instr{Op: Call, Sub: 1, Args: []int{0, 1}, D: 0}, Instr{Op: Return, A: 0}), "c1 halt -3 4"},
		{row(Instr{Op: Call, Sub: 1, Args: []int{1, 0}, D: 2}, Instr{Op: Return, A: 2}), "c1 halt 3 4"},
		{row(Instr{Op: Call, Sub: 1, Args: []int{1, 1}, D: 2}, Instr{Op: Return, A: 2}), "c1 halt 0 4"},
		{row(Instr{Op: Call, Sub: 1, Args: []int{1, 0}, D: none}, Instr{Op: Return, A: 1}), "c1 halt 8 4"},
		{row(Instr{Op: Call, Sub: 1, Args: []int{1, 0}, D: none}, Instr{Op: Return, A: 2}), "c1 stuck 4"},
		{row(Instr{Op: Call, Sub: 1, Args: []int{1, 2}, D: 2}, Instr{Op: Return, A: 1}), "c1 stuck 2"},
		{row(Instr{Op: Call, Sub: 2, D: 2}, Instr{Op: Return, A: 1}), "c2 halt 8 3"},
		{row(Instr{Op: Call, Sub: 2, D: none}, Instr{Op: Return, A: 1}), "c2 halt 8 3"},
		{row(Instr{Op: Call, Sub: 2, D: 1}, Instr{Op: Return, A: 1}), "c2 stuck 3"},
		{row(Instr{Op: Call, Sub: 1, Args: []int{1, 0}, D: 0}, Instr{Op: Call, Sub: 1, Args: []int{1, 0}, D: 1}, Instr{Op: Return, A: 1}), "c1 c1 halt 5 7"},
	} {
		p := Prog{Funcs: []Func{{Params: []int{0, 1}, Regs: 3, Code: c.code}, minus, nothing}}
		runs(t, p, l(5, 8), nil, c.want)
	}
	// What a call wrote in its registers is gone at the next one.
	forgets := Prog{Funcs: []Func{
		{Regs: 1, Code: row(Instr{Op: Const, D: 0, K: 1}, Instr{Op: Call, Sub: 1, Args: []int{0}, D: 0}, Instr{Op: Const, D: 0}, Instr{Op: Call, Sub: 1, Args: []int{0}, D: 0}, Instr{Op: Return})},
		{Params: []int{0}, Regs: 2, Code: []Instr{{Op: Cond, Sub: api.Ne, A: 0, B: none, S: 1, T: 2}, {Op: Const, D: 1, K: 5, S: 2}, {Op: Return, A: 1}}},
	}}
	runs(t, forgets, nil, nil, "c1 b1 c1 b0 stuck 10")
}

// TestFrames: each call has a block of its own, of no bytes too.
func TestFrames(t *testing.T) {
	touch := func(size int) Func {
		return Func{Regs: 1, Frame: size, Code: row(Instr{Op: Frame, D: 0, K: int64(size)}, Instr{Op: Load, Sub: 1, A: 0, K: -1, D: 0}, Instr{Op: Return, A: 0})}
	}
	calls := func(numbers ...int) Func {
		f := Func{Regs: 1}
		for _, n := range numbers {
			f.Code = append(f.Code, Instr{Op: Call, Sub: n, D: none})
		}
		f.Code = row(append(f.Code, Instr{Op: Const, K: 3}, Instr{Op: Return})...)
		return f
	}
	p := Prog{Globals: []int{0, 8, 0}, Funcs: []Func{calls(1, 2, 1, 3, 2), touch(4), calls(1), {Code: []Instr{{Op: Return, A: none}}}}}
	runs(t, p, nil, nil, "c1 a5+3 c2 c1 a7+3 c1 a8+3 c3 c2 c1 a11+3 halt 3 26")
	// Of no bytes none can be reached, but there is a pointer.
	for _, c := range []struct {
		size int
		want string
	}{{0, "a1+-1 stuck 2"}, {1, "a1+0 stuck 3"}, {65536, "a1+65535 stuck 3"}} {
		runs(t, Prog{Funcs: []Func{touch(c.size)}}, nil, nil, c.want)
	}
	runs(t, Prog{Globals: []int{0}, Funcs: []Func{{Regs: 1, Code: row(Instr{Op: Global}, Instr{Op: Load, Sub: 1}, Instr{Op: Return})}}}, nil, nil, "a1+0 stuck 2")
}

// TestLosing: what is lost of a caller is Undef behind a call, but for the answer's register; what is no register of it is not asked, and nothing else changes.
func TestLosing(t *testing.T) {
	p := Prog{Funcs: []Func{
		{Params: []int{0, 1}, Regs: 3, Code: row(Instr{Op: Call, Sub: 1, Args: []int{0}, D: 2}, Instr{Op: Out, A: 2}, Instr{Op: Out, A: 0}, Instr{Op: Return, A: 1})},
		{Params: []int{0}, Regs: 4, Code: row(Instr{Op: Copy, A: 0, D: 3}, Instr{Op: Call, Sub: 2, D: none}, Instr{Op: Return, A: 3})},
		{Code: []Instr{{Op: Return, A: none}}},
	}}
	for _, c := range []struct {
		lost []int
		want string
	}{
		{nil, "o5 o5 c1 c2 halt 8 8"}, {[]int{}, "o5 o5 c1 c2 halt 8 8"}, {[]int{2}, "o5 o5 c1 c2 halt 8 8"}, {[]int{lowest, -1, 4, highest}, "o5 o5 c1 c2 halt 8 8"},
		{[]int{1}, "o5 o5 c1 c2 stuck 8"}, {[]int{0}, "o5 c1 c2 stuck 7"}, {[]int{3}, "c1 c2 stuck 6"}, {[]int{99, 2, 1, 1}, "o5 o5 c1 c2 stuck 8"},
	} {
		before := fmt.Sprint(c.lost)
		if r, e := RunLosing(p, c.lost, l(5, 8), nil, 100); e != api.OK || told(r) != c.want || fmt.Sprint(c.lost) != before {
			t.Errorf("P16.1: where %v is lost: %s (%d), want %s", c.lost, told(r), e, c.want)
		}
		for _, fuel := range []int{-1, 10000001} {
			if r, e := RunLosing(p, c.lost, l(5, 8), nil, fuel); e != api.EARG || r.Kind != 0 {
				t.Errorf("P16.1: where %v is lost, with fuel %d: %s (%d)", c.lost, fuel, told(r), e)
			}
		}
	}
}

// TestDepth: 20000 calls within one another, main's among them, and no more.
func TestDepth(t *testing.T) {
	// f(n) calls itself n times within one another, and answers n.
	f := Func{Params: []int{0}, Regs: 2, Code: []Instr{
		{Op: Cond, Sub: api.Eq, A: 0, B: none, S: 4, T: 1}, {Op: Bin, Sub: api.Sub, A: 0, B: none, K: 1, D: 1, S: 2}, {Op: Call, Sub: 1, Args: []int{1}, D: 0, S: 3},
		{Op: Bin, Sub: api.Add, A: 0, B: none, K: 1, D: 0, S: 4}, {Op: Return, A: 0}}}
	p := Prog{Funcs: []Func{{Params: []int{0}, Regs: 1, Code: row(Instr{Op: Call, Sub: 1, Args: []int{0}, D: 0}, Instr{Op: Return})}, f}}
	for _, c := range []struct {
		n    int64
		want string
		last api.Leak
	}{{0, "halt 0", api.Leak{Kind: api.Branch, A: 1}}, {19997, "halt 19997", api.Leak{Kind: api.Branch, A: 1}}, {19998, "halt 19998", api.Leak{Kind: api.Branch, A: 1}}, {19999, "stuck", api.Leak{Kind: api.Call, A: 1}}, {25000, "stuck", api.Leak{Kind: api.Call, A: 1}}} {
		r, e := Run(p, l(c.n), nil, 10000000)
		steps := 5*c.n + 4
		if c.want == "stuck" {
			steps = 1 + 3*19999
		}
		if want := fmt.Sprintf("%s %d", c.want, steps); e != api.OK || told(api.Run{Kind: r.Kind, Exit: r.Exit, Steps: r.Steps}) != want || r.Leaks[len(r.Leaks)-1] != c.last {
			t.Errorf("P12.1: %d calls within one another: %d, %d in %d steps, at last %v, want %s", c.n, r.Kind, r.Exit, r.Steps, r.Leaks[len(r.Leaks)-1], want)
		}
	}
}

// TestBlocks: a memory makes 100000 blocks, the globals' and main's among them.
func TestBlocks(t *testing.T) {
	code := []Instr{
		{Op: Cond, Sub: api.Eq, A: 0, B: none, S: 3, T: 1}, {Op: Call, Sub: 1, D: none, S: 2}, {Op: Bin, Sub: api.Sub, A: 0, B: none, K: 1, D: 0, S: 0}, {Op: Return, A: 0},
	}
	p := Prog{Globals: []int{8, 0}, Funcs: []Func{{Params: []int{0}, Regs: 1, Code: code}, {Code: []Instr{{Op: Return, A: none}}}}}
	for n, want := range map[int64]int{99996: api.Halt, 99997: api.Halt, 99998: api.Stuck, 100000: api.Stuck} {
		r, e := Run(p, l(n), nil, 10000000)
		if e != api.OK || r.Kind != want {
			t.Errorf("P12.1: %d calls: %d", n, r.Kind)
		}
		if last := r.Leaks[len(r.Leaks)-1]; want == api.Stuck && last != (api.Leak{Kind: api.Call, A: 1}) {
			t.Errorf("P12.1: %d calls: at last %v", n, last)
		}
	}
}

// TestGreatFuel: the most fuel is used up, and not passed.
func TestGreatFuel(t *testing.T) {
	for _, fuel := range []int{9999999, 10000000} {
		if r, e := Run(alone(0, Instr{Op: Nop}), nil, nil, fuel); e != api.OK || told(r) != fmt.Sprintf("fuel %d", fuel) {
			t.Errorf("P12.1: with fuel %d: %d, %d steps", fuel, r.Kind, r.Steps)
		}
	}
}
