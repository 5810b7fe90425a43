package enc_test

import (
	"fmt"
	"math/rand"
	"slices"
	"testing"

	"plumbob/api"
	"plumbob/asm"
	"plumbob/enc"
	"plumbob/listings"
)

// TestBytes has instructions with their bytes written out: registers below 8 and from 8 on in each field, addresses by 4 and 12, numbers at their edges.
func TestBytes(t *testing.T) {
	for _, c := range []struct {
		i    asm.Ins
		want string
	}{
		{movR(0, 3), "48 89 d8"}, {movR(8, 3), "49 89 d8"}, {movR(0, 11), "4c 89 d8"}, {movR(15, 12), "4d 89 e7"}, {movR(5, 4), "48 89 e5"}, {movR(7, 7), "48 89 ff"},
		{movK(0, 5), "48 c7 c0 05 00 00 00"}, {movK(12, -2), "49 c7 c4 fe ff ff ff"}, {movK(3, 1<<31-1), "48 c7 c3 ff ff ff 7f"}, {movK(3, -1<<31), "48 c7 c3 00 00 00 80"}, {movK(3, 1<<31), "48 bb 00 00 00 80 00 00 00 00"}, {movK(3, -1<<31-1), "48 bb ff ff ff 7f ff ff ff ff"}, {movK(15, 1<<32), "49 bf 00 00 00 00 01 00 00 00"}, {movK(8, lowest), "49 b8 00 00 00 00 00 00 00 80"}, {movK(0, highest), "48 b8 ff ff ff ff ff ff ff 7f"}, {movK(12, 0x0102030405060708), "49 bc 08 07 06 05 04 03 02 01"},
		{load(8, 1, 4, 8), "48 8b 8c 24 08 00 00 00"}, {load(8, 9, 12, -8), "4d 8b 8c 24 f8 ff ff ff"}, {load(8, 0, 5, 0), "48 8b 85 00 00 00 00"}, {load(8, 12, 13, 1<<31-1), "4d 8b a5 ff ff ff 7f"}, {load(4, 6, 7, -1<<31), "48 63 b7 00 00 00 80"}, {load(4, 8, 4, 4), "4c 63 84 24 04 00 00 00"}, {load(1, 3, 12, 1), "49 0f be 9c 24 01 00 00 00"}, {load(1, 10, 0, 0), "4c 0f be 90 00 00 00 00"},
		{store(8, 4, 8, 1), "48 89 8c 24 08 00 00 00"}, {store(8, 12, -8, 9), "4d 89 8c 24 f8 ff ff ff"}, {store(8, 3, 0, 4), "48 89 a3 00 00 00 00"}, {store(4, 5, 1<<31-1, 0), "40 89 85 ff ff ff 7f"}, {store(4, 13, -1<<31, 14), "45 89 b5 00 00 00 80"}, {store(4, 4, 16, 4), "40 89 a4 24 10 00 00 00"}, {store(1, 7, 0, 6), "40 88 b7 00 00 00 00"}, {store(1, 12, 3, 8), "45 88 84 24 03 00 00 00"}, {store(1, 8, 0, 5), "41 88 a8 00 00 00 00"},
		{lea(3, 4, 16), "48 8d 9c 24 10 00 00 00"}, {lea(12, 12, -1), "4d 8d a4 24 ff ff ff ff"}, {lea(0, 1, 1<<31-1), "48 8d 81 ff ff ff 7f"}, {lea(8, 0, -1<<31), "4c 8d 80 00 00 00 80"}, {lea(0, 5, 0), "48 8d 85 00 00 00 00"},
		{leaG(0, 0, 0), "48 8d 05 f9 ff ff 00"}, {leaG(13, 0, 20), "4c 8d 2d 0d 00 00 01"}, {leaG(7, 1, 0), "48 8d 3d 29 00 00 01"}, {leaG(8, 1, 8), "4c 8d 05 31 00 00 01"},
		{alu(api.Add, 1, 2), "48 01 d1"}, {alu(api.Add, 9, 2), "49 01 d1"}, {alu(api.Sub, 1, 10), "4c 29 d1"}, {alu(api.And, 9, 10), "4d 21 d1"}, {alu(api.Or, 0, 0), "48 09 c0"}, {alu(api.Xor, 15, 15), "4d 31 ff"}, {alu(api.Mul, 1, 2), "48 0f af ca"}, {alu(api.Mul, 1, 10), "49 0f af ca"}, {alu(api.Mul, 9, 2), "4c 0f af ca"}, {alu(api.Mul, 12, 12), "4d 0f af e4"},
		{aluK(api.Add, 1, 5), "48 81 c1 05 00 00 00"}, {aluK(api.Or, 12, -1), "49 81 cc ff ff ff ff"}, {aluK(api.And, 0, 1<<31-1), "48 81 e0 ff ff ff 7f"}, {aluK(api.Sub, 12, -1<<31), "49 81 ec 00 00 00 80"}, {aluK(api.Xor, 8, 0), "49 81 f0 00 00 00 00"}, {aluK(api.Mul, 3, 7), "48 69 db 07 00 00 00"}, {aluK(api.Mul, 9, -1<<31), "4d 69 c9 00 00 00 80"}, {aluK(api.Add, 12, 1), "49 81 c4 01 00 00 00"},
		{un(api.Not, 0), "48 f7 d0"}, {un(api.Not, 12), "49 f7 d4"}, {un(api.Neg, 3), "48 f7 db"}, {un(api.Neg, 11), "49 f7 db"}, {ext(api.Ext8, 0, 6), "48 0f be c6"}, {ext(api.Ext8, 12, 9), "4d 0f be e1"}, {ext(api.Ext32, 8, 1), "4c 63 c1"}, {ext(api.Ext32, 1, 8), "49 63 c8"},
		{shift(api.Shl, 0, 63), "48 c1 e0 3f"}, {shift(api.Shl, 12, 0), "49 c1 e4 00"}, {shift(api.Shr, 7, 1), "48 c1 ff 01"}, {shift(api.Shr, 8, 32), "49 c1 f8 20"}, {shiftC(api.Shl, 2), "48 d3 e2"}, {shiftC(api.Shr, 10), "49 d3 fa"},
		{cqo, "48 99"}, {idiv(3), "48 f7 fb"}, {idiv(11), "49 f7 fb"}, {cmp(1, 2), "48 39 d1"}, {cmp(1, 9), "4c 39 c9"}, {cmp(9, 1), "49 39 c9"}, {cmp(4, 0), "48 39 c4"}, {cmpK(4, 1), "48 81 fc 01 00 00 00"}, {cmpK(12, -1<<31), "49 81 fc 00 00 00 80"}, {cmpK(0, 1<<31-1), "48 81 f8 ff ff ff 7f"},
		{set(api.Eq, 0), "40 0f 94 c0 48 0f b6 c0"}, {set(api.Ne, 6), "40 0f 95 c6 48 0f b6 f6"}, {set(api.Lt, 9), "41 0f 9c c1 4d 0f b6 c9"}, {set(api.Ge, 12), "41 0f 9d c4 4d 0f b6 e4"}, {set(api.Le, 7), "40 0f 9e c7 48 0f b6 ff"}, {set(api.Gt, 15), "41 0f 9f c7 4d 0f b6 ff"},
		{call(0), "e8 fb ff ff ff"}, {ret, "c3"}, {enter(0), "48 81 ec 00 00 00 00"}, {enter(65536), "48 81 ec 00 00 01 00"}, {leave(8), "48 81 c4 08 00 00 00"}, {in, "48 ed"}, {out, "48 ef"},
	} {
		p := program(row(c.i))
		m := encoded(t, p)
		if s := fmt.Sprintf("% x", m.Code); s != c.want {
			t.Errorf("P22.1: %+v: %s, want %s", c.i, s, c.want)
		}
		i, n, e := enc.Decode(m, 0)
		if i != c.i || n != len(m.Code) || e != api.OK {
			t.Errorf("P22.2: %s: %+v, %d, %d; want %+v", c.want, i, n, e, c.i)
		}
	}
}

// TestUnnamed has fields that the table does not name: they may be any, and no byte hangs on them; what is read has none.
func TestUnnamed(t *testing.T) {
	plain := row(label(1), movR(3, 9), movK(12, 5), load(4, 3, 4, 8), store(1, 5, -1, 4), lea(8, 4, 0), leaG(3, 1, 2), alu(api.Xor, 1, 2), aluK(api.Or, 1, 2), un(api.Neg, 3), ext(api.Ext8, 1, 9), shift(api.Shr, 3, 4), shiftC(api.Shl, 9), cqo, idiv(9), cmp(4, 9), cmpK(4, 9), set(api.Eq, 3), jmp(1), jcc(api.Le, 1), call(0), ret, enter(8), leave(8), in, out)
	filled := slices.Clone(plain)
	for n := range filled {
		filled[n] = stuffed(filled[n])
		if filled[n] == plain[n] || bare(filled[n]) != plain[n] {
			t.Fatalf("%+v is filled as %+v", plain[n], filled[n])
		}
	}
	m, n := encoded(t, program(plain)), encoded(t, program(filled))
	if !sameImage(m, n) {
		t.Errorf("P22.1: with fields that are not named: % x, want % x", n.Code, m.Code)
	}
	readBack(t, program(plain), n)
}

// TestLinks has what goes on elsewhere: jumps ahead, back and to a function's end, calls of functions ahead and behind, globals from functions behind the first one.
func TestLinks(t *testing.T) {
	for _, c := range []struct {
		what string
		p    asm.Prog
		want string
	}{
		{"a jump ahead", program(row(jmp(9), ret, label(9), ret)), "e9 01 00 00 00 c3 c3 [0]"}, {"one to the next instruction", program(row(jmp(9), label(9), ret)), "e9 00 00 00 00 c3 [0]"}, {"one to itself", program(row(label(0), jmp(0))), "e9 fb ff ff ff [0]"}, {"a jump back", program(row(label(3), cqo, jmp(3))), "48 99 e9 f9 ff ff ff [0]"}, {"one to the end", program(row(ret, jmp(3), label(3))), "c3 e9 00 00 00 00 [0]"}, {"one to labels side by side", program(row(jmp(4), ret, label(3), label(4), label(5), ret)), "e9 01 00 00 00 c3 c3 [0]"},
		{"a choice ahead", program(row(jcc(api.Eq, 10000000), ret, label(10000000), ret)), "0f 84 01 00 00 00 c3 c3 [0]"}, {"each other one", program(row(label(1), jcc(api.Ne, 1), jcc(api.Lt, 1), jcc(api.Ge, 1), jcc(api.Le, 1), jcc(api.Gt, 1))), "0f 85 fa ff ff ff 0f 8c f4 ff ff ff 0f 8d ee ff ff ff 0f 8e e8 ff ff ff 0f 8f e2 ff ff ff [0]"},
		{"labels of other functions", program(row(ret), row(jmp(1), label(1), ret), row(label(1), ret, jmp(1))), "c3 e9 00 00 00 00 c3 c3 e9 fa ff ff ff [0 1 7]"},
		{"calls", program(row(call(2), call(0), ret), row(ret), row(call(1), ret)), "e8 07 00 00 00 e8 f6 ff ff ff c3 c3 e8 fa ff ff ff c3 [0 11 12]"}, {"a call of one whose first is a label", program(row(call(1), label(1)), row(label(1), ret)), "e8 00 00 00 00 c3 [0 5]"},
		{"globals", program(row(ret), row(leaG(1, 0, 0), leaG(1, 0, 20), leaG(9, 1, 0))), "c3 48 8d 0d f8 ff ff 00 48 8d 0d 05 00 00 01 4c 8d 0d 1a 00 00 01 [0 1]"},
	} {
		m := encoded(t, c.p)
		if s := fmt.Sprintf("% x %v", m.Code, m.Starts); s != c.want {
			t.Errorf("P22.1: %s: %s, want %s", c.what, s, c.want)
		}
	}
}

// TestPlaces has globals of sizes that are and are not divided by 16, at 0 and at their ends.
func TestPlaces(t *testing.T) {
	sizes := []int{0, 1, 15, 16, 17, 65536, 32, 65535, 0, 8}
	want := []int{0x1000000, 0x1000010, 0x1000030, 0x1000050, 0x1000070, 0x10000A0, 0x10100B0, 0x10100E0, 0x10200F0, 0x1020100}
	for n, size := range sizes {
		for _, k := range []int{0, size} {
			p := asm.Prog{Globals: sizes, Funcs: []asm.Func{{Code: row(cqo, leaG(3, n, int64(k)), ret)}}}
			m := encoded(t, p)
			if got := int(toldBy(m.Code[5:9])) + 9; got != want[n]+k || !slices.Equal(m.Globals, sizes) {
				t.Errorf("P22.1: byte %d of global %d stands at %x, want %x", k, n, got, want[n]+k)
			}
			if i, size, e := enc.Decode(m, 2); i != leaG(3, n, int64(k)) || size != 7 || e != api.OK {
				t.Errorf("P22.2: byte %d of global %d: %+v, %d, %d", k, n, i, size, e)
			}
		}
	}
}

// TestEncodeRefused has programs that are not well formed, and what an image has besides bytes.
func TestEncodeRefused(t *testing.T) {
	good := asm.Prog{Globals: []int{3}, Funcs: []asm.Func{{Code: row(ret)}, {Code: row(label(1), in, label(2), ret, label(3))}}, Main: 1, Params: 6}
	if m := encoded(t, good); fmt.Sprintf("%x %v %v %d %d", m.Code, m.Starts, m.Globals, m.Main, m.Params) != "c348edc3 [0 1] [3] 1 6" {
		t.Errorf("P22.1: %s", dumpImage(m))
	}
	for what, change := range map[string]func(p *asm.Prog){
		"no functions": func(p *asm.Prog) { p.Funcs = nil }, "main -1": func(p *asm.Prog) { p.Main = -1 }, "main 2": func(p *asm.Prog) { p.Main = 2 }, "7 params": func(p *asm.Prog) { p.Params = 7 }, "-1 params": func(p *asm.Prog) { p.Params = -1 }, "a global below 0": func(p *asm.Prog) { p.Globals[0] = -1 }, "one too great": func(p *asm.Prog) { p.Globals[0] = 65537 },
		"an empty function": func(p *asm.Prog) { p.Funcs[0].Code = nil }, "one of Labels alone": func(p *asm.Prog) { p.Funcs[0].Code = row(label(1), label(2)) }, "two Labels alike": func(p *asm.Prog) { p.Funcs[0].Code = row(label(1), label(1), ret) }, "no Op": func(p *asm.Prog) { p.Funcs[0].Code = row(asm.Ins{}) }, "Op 27": func(p *asm.Prog) { p.Funcs[0].Code = row(asm.Ins{Op: 27}) }, "R 4": func(p *asm.Prog) { p.Funcs[0].Code = row(movK(4, 1)) }, "R 16": func(p *asm.Prog) { p.Funcs[0].Code = row(movK(16, 1)) }, "M -1": func(p *asm.Prog) { p.Funcs[0].Code = row(movR(1, -1)) }, "no such Label": func(p *asm.Prog) { p.Funcs[0].Code = row(jmp(1)) }, "a call of none": func(p *asm.Prog) { p.Funcs[0].Code = row(call(2)) }, "a global's byte that is none": func(p *asm.Prog) { p.Funcs[0].Code = row(leaG(1, 0, 4)) }, "K above 32 bits": func(p *asm.Prog) { p.Funcs[0].Code = row(load(8, 1, 2, 1<<31)) }, "too many instructions": func(p *asm.Prog) { p.Funcs[0].Code = slices.Repeat(row(ret), 100001) },
	} {
		p := asm.Prog{Globals: slices.Clone(good.Globals), Funcs: slices.Clone(good.Funcs), Main: 1, Params: 6}
		change(&p)
		if m, e := enc.Encode(p); e != api.EARG || !sameImage(m, enc.Image{}) {
			t.Errorf("P22.1: %s: %d, %.100s", what, e, dumpImage(m))
		}
	}
}

// filled is a program of so many bytes: of functions of as many instructions as may be, the last one shorter.
func filled(size int) asm.Prog {
	var p asm.Prog
	far := slices.Repeat(row(movK(0, highest)), 100000)
	for ; size > 1000000; size -= 1000000 {
		p.Funcs = append(p.Funcs, asm.Func{Code: far})
	}
	code := append(slices.Clone(far[:size/10]), slices.Repeat(row(ret), size%10)...)
	p.Funcs = append(p.Funcs, asm.Func{Code: code})
	return p
}

// TestManyBytes has as many as there may be, and one more.
func TestManyBytes(t *testing.T) {
	const most = 8388608
	m := encoded(t, filled(most))
	if len(m.Code) != most || len(m.Starts) != 9 || m.Starts[8] != 8000000 || m.Code[most-1] != 0xC3 {
		t.Errorf("P22.1: %d bytes, %v", len(m.Code), m.Starts)
	}
	for _, p := range []asm.Prog{filled(most + 1), filled(most + 10), filled(40000000)} {
		if m, e := enc.Encode(p); e != api.ELIMIT || !sameImage(m, enc.Image{}) {
			t.Errorf("P22.1: too many bytes: %d, %d", e, len(m.Code))
		}
	}
	wrong := filled(most + 1)
	wrong.Main = 9
	if _, e := enc.Encode(wrong); e != api.EARG {
		t.Errorf("P22.1: too many bytes, and main none: %d", e)
	}
	if p, e := enc.Lift(m); e != api.OK || len(p.Funcs) != 9 || len(p.Funcs[8].Code) != 38860+8 || p.Funcs[8].Code[38859] != movK(0, highest) {
		t.Errorf("P22.3: Lift of %d bytes: %d", most, e)
	}
}

// TestEncodeByChance has programs by chance: the second reading lays them alike, and each instruction is read as it was.
func TestEncodeByChance(t *testing.T) {
	t.Parallel()
	s := newSecond()
	for seed := range int64(1500) {
		r := rand.New(rand.NewSource(seed))
		p := listings.Wild(r.Intn)
		if seed%3 == 0 {
			p = listings.New(r.Intn, 30).Deep(10).Program()
		}
		m := encoded(t, p)
		if want := s.image(p); !sameImage(m, want) {
			t.Fatalf("P22.1: %s: % x %v, want % x %v", asm.Text(p), m.Code, m.Starts, want.Code, want.Starts)
		}
		readBack(t, p, m)
	}
	broken := 0
	for seed := range int64(20000) {
		p := listings.Broken(rand.New(rand.NewSource(seed)).Intn)
		m, e := enc.Encode(p)
		if asm.Good(p) && (e != api.OK || !sameImage(m, s.image(p))) || !asm.Good(p) && (e != api.EARG || !sameImage(m, enc.Image{})) {
			t.Fatalf("P22.1: %s: %d", asm.Text(p), e)
		}
		if e != api.OK {
			broken++
		}
	}
	if broken < 10000 || broken > 19980 {
		t.Errorf("%d of 20000 are not well formed", broken)
	}
}

// readBack asks that Decode reads each instruction of a program where it was laid.
func readBack(t *testing.T, p asm.Prog, m enc.Image) {
	t.Helper()
	at := 0
	for n, f := range p.Funcs {
		if m.Starts[n] != at {
			t.Fatalf("P22.1: function %d starts at %d, want %d", n, m.Starts[n], at)
		}
		for _, want := range f.Code {
			if want.Op == asm.Label {
				continue
			}
			want = bare(want)
			i, size, e := enc.Decode(m, at)
			if want.Op == asm.Jmp || want.Op == asm.Jcc {
				want.L = i.L
			}
			if i != want || e != api.OK || size <= 0 {
				t.Fatalf("P22.2: %s: at %d %+v, %d; want %+v", asm.Text(p), at, i, e, want)
			}
			at += size
		}
	}
	if at != len(m.Code) {
		t.Fatalf("P22.4: the instructions have %d bytes of %d", at, len(m.Code))
	}
}

// TestRoom: what Encode answers is new memory.
func TestRoom(t *testing.T) {
	p := program(row(leaG(3, 1, 2), jmp(1), label(1), call(1), ret), row(ret))
	before := dumpProgram(p)
	m, again := encoded(t, p), encoded(t, p)
	want := dumpImage(again)
	clear(m.Code[:cap(m.Code)])
	for _, list := range [][]int{m.Starts, m.Globals} {
		list = list[:cap(list)]
		for n := range list {
			list[n] = -7
		}
	}
	if dumpImage(again) != want || dumpProgram(p) != before {
		t.Errorf("R4: what Encode answers shares memory: %s", dumpImage(again))
	}
}
