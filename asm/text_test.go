package asm_test

import (
	"fmt"
	"math/rand"
	"slices"
	"testing"

	"plumbob/api"
	"plumbob/asm"
	"plumbob/listings"
)

// TestText has a program told.
func TestText(t *testing.T) {
	p := taking(2, program(row(enter(16), movR(3, 7), movK(0, -5), load(8, 1, 4, 8), store(1, 12, -1, 4), lea(2, 4, 0), leaG(8, 1, 8), alu(api.Xor, 9, 10), aluK(api.Mul, 11, 7), un(api.Neg, 13), ext(api.Ext32, 14, 15), shift(api.Shr, 5, 63), shiftC(api.Shl, 6)), row(cqo, idiv(3), cmp(4, 3), cmpK(0, 9), set(api.Ge, 0), jcc(api.Ne, 10), jmp(10), label(10), call(1), in, out, leave(16), ret)))
	p.Main = 1
	want := "main 1 of 2\nglobal 0 of 16 bytes\nglobal 1 of 8 bytes\nfunction 0 \"f0\"\n\tenter K=16\n\tmovr R=rbx M=rdi\n\tmovk R=rax K=-5\n\tload Sub=8 R=rcx M=rsp K=8\n\tstore Sub=1 R=rsp M=r12 K=-1\n\tlea R=rdx M=rsp K=0\n\tleag Sub=1 R=r8 K=8\n\talu Sub=xor R=r9 M=r10\n\taluk Sub=mul R=r11 K=7\n\tun Sub=neg R=r13\n\text Sub=ext32 R=r14 M=r15\n\tshift Sub=shr R=rbp K=63\n\tshiftc Sub=shl R=rsi\n" +
		"function 1 \"f1\"\n\tcqo\n\tidiv M=rbx\n\tcmp R=rsp M=rbx\n\tcmpk R=rax K=9\n\tset Cc=ge R=rax\n\tjcc Cc=ne L=10\n\tjmp L=10\n\tlabel L=10\n\tcall Sub=1\n\tini\n\touti\n\tleave K=16\n\tret\n"
	if got := asm.Text(p); got != want {
		t.Errorf("P20.1: Text: %s", got)
	}
	if asm.Text(asm.Prog{}) != asm.Text(asm.Prog{Globals: []int{}, Funcs: []asm.Func{}}) || asm.Text(program(nil)) != asm.Text(program(row())) {
		t.Errorf("P20.1: Text of nil and of an empty list")
	}
}

// TestTextApart: unlike programs are told unlike, whatever their fields and names hold, and one always the same.
func TestTextApart(t *testing.T) {
	r := rand.New(rand.NewSource(1))
	seen := map[string]string{}
	tell := func(p asm.Prog) {
		text, whole := asm.Text(p), fmt.Sprintf("%+v", p)
		for _, f := range p.Funcs {
			whole += fmt.Sprintf("%q", f.Name)
		}
		if asm.Text(spare(p)) != text {
			t.Fatalf("P20.1: once more Text is another: %s", text)
		}
		if other, ok := seen[text]; ok && other != whole {
			t.Fatalf("two programs are told the same: %s and %s: %s", whole, other, text)
		}
		seen[text] = whole
	}
	small := []int{0, 0, 0, -1, 1, 2, 11, 16, 21, 111, lowest, highest}
	for range 40000 {
		i := asm.Ins{Op: r.Intn(30) - 1}
		for number := 1; number < 7; number++ {
			field(&i, number, small[r.Intn(len(small))])
		}
		tell(program(row(i)))
		tell(program(slices.Repeat(row(i), 2)))
	}
	for n := range 2000 {
		r := rand.New(rand.NewSource(int64(n)))
		tell(listings.Broken(r.Intn))
		tell(listings.Wild(r.Intn))
		tell(listings.New(r.Intn, 20).Program())
	}
	for _, name := range []string{"", "a", " ", "\"", "\\\"", "\n", "\\n", "a\n\tret", "\xff", "\\xff", "\ufffd", "\x00"} {
		p := program(row(ret), row(ret))
		p.Funcs[0].Name = name
		tell(p)
	}
	for n := range 20 {
		p := program(row(ret), row(ret))
		p.Main, p.Params, p.Globals = n/4-1, n%4-1, make([]int, n%3)
		tell(p)
		tell(program(slices.Repeat([][]asm.Ins{nil}, n)...))
	}
}

// TestNewMemory: what two runs answer shares nothing, and the world may be changed behind one.
func TestNewMemory(t *testing.T) {
	p := program(row(in, out, leaG(3, 0, 0), store(8, 3, 0, 0), call(1), ret), row(ret))
	world := append(make([]int64, 0, 4), 5, 6)
	one, _ := asm.Run(p, nil, world, 100, 100)
	two, _ := asm.Run(p, nil, world, 100, 100)
	want := told(one)
	for n := range one.Events[:cap(one.Events)] {
		one.Events[:cap(one.Events)][n] = api.Event{Kind: api.In, V: 99}
	}
	for n := range one.Leaks[:cap(one.Leaks)] {
		one.Leaks[:cap(one.Leaks)][n] = api.Leak{Kind: api.Addr, A: 99}
	}
	if told(two) != want || !slices.Equal(world[:4], l(5, 6, 0, 0)) {
		t.Errorf("R4: %s, want %s; the world %v", told(two), want, world[:4])
	}
	if three, _ := asm.Run(p, nil, world, 100, 100); told(three) != want {
		t.Errorf("R5: %s, want %s", told(three), want)
	}
}
