package enc_test

import (
	"encoding/hex"
	"fmt"
	"slices"
	"strings"
	"testing"

	"plumbob/api"
	"plumbob/asm"
	"plumbob/bricks"
	"plumbob/codes"
	"plumbob/enc"
)

const (
	lowest  = -1 << 63
	highest = 1<<63 - 1
	all     = 1<<31 - 1 // a limit that is none
)

var (
	movR   = codes.MovR
	movK   = codes.MovK
	load   = codes.Load
	store  = codes.Store
	lea    = codes.Lea
	leaG   = codes.LeaG
	alu    = codes.Alu
	aluK   = codes.AluK
	un     = codes.Un
	ext    = codes.Ext
	shift  = codes.Shift
	shiftC = codes.ShiftC
	cqo    = codes.Cqo()
	idiv   = codes.Idiv
	cmp    = codes.Cmp
	cmpK   = codes.CmpK
	set    = codes.Set
	jmp    = codes.Jmp
	jcc    = codes.Jcc
	label  = codes.Label
	call   = codes.Call
	ret    = codes.Ret()
	enter  = codes.Enter
	leave  = codes.Leave
	in     = codes.In()
	out    = codes.Out()
	told   = bricks.Told
)

func l(numbers ...int64) []int64 { return numbers }

func row(l ...asm.Ins) []asm.Ins { return l }

// program has two globals, of 20 and 8 bytes, and functions of such code, the first one main.
func program(codes ...[]asm.Ins) asm.Prog {
	p := asm.Prog{Globals: []int{20, 8}}
	for n, code := range codes {
		p.Funcs = append(p.Funcs, asm.Func{Name: fmt.Sprint("g", n), Code: code})
	}
	return p
}

// image has such bytes, and one function.
func image(text string) enc.Image {
	b, err := hex.DecodeString(strings.ReplaceAll(text, " ", ""))
	if err != nil {
		panic(err)
	}
	return enc.Image{Code: b, Starts: []int{0}, Globals: []int{20, 8}}
}

// starting lets functions of an image start elsewhere.
func starting(m enc.Image, starts ...int) enc.Image {
	m.Starts = starts
	return m
}

// having gives it other globals.
func having(m enc.Image, sizes ...int) enc.Image {
	m.Globals = sizes
	return m
}

// behind has spare room behind a list, in which a call that keeps or changes what it was handed would be seen.
func behind[T any](l []T, more ...T) []T {
	return append(slices.Clone(l), more...)[:len(l)]
}

func spareImage(m enc.Image) enc.Image {
	m.Code, m.Starts, m.Globals = behind(m.Code, 0xC3, 0x90), behind(m.Starts, 1, 2), behind(m.Globals, 7, 8)
	return m
}

// dumpImage tells all of an image, spare room too.
func dumpImage(m enc.Image) string {
	return fmt.Sprintf("%x %v %v %d %d", m.Code[:cap(m.Code)], m.Starts[:cap(m.Starts)], m.Globals[:cap(m.Globals)], m.Main, m.Params)
}

func spareProgram(p asm.Prog) asm.Prog {
	p.Globals, p.Funcs = behind(p.Globals, 7, 8), behind(p.Funcs, asm.Func{Name: "more"})
	for n := range p.Funcs {
		p.Funcs[n].Code = behind(p.Funcs[n].Code, movK(3, 77), movK(4, 78))
	}
	return p
}

// dumpProgram tells all of a program, spare room too.
func dumpProgram(p asm.Prog) string {
	s := fmt.Sprint(p.Main, p.Params, p.Globals[:cap(p.Globals)])
	for _, f := range p.Funcs[:cap(p.Funcs)] {
		s += fmt.Sprintf("%q%v", f.Name, f.Code[:cap(f.Code)])
	}
	return s
}

// sameImage tells whether two are one: nil and an empty list are.
func sameImage(a, b enc.Image) bool {
	return string(a.Code) == string(b.Code) && slices.Equal(a.Starts, b.Starts) && slices.Equal(a.Globals, b.Globals) && a.Main == b.Main && a.Params == b.Params
}

// encoded is what Encode answers. It asks that nothing is changed.
func encoded(t *testing.T, p asm.Prog) enc.Image {
	t.Helper()
	p = spareProgram(p)
	before := dumpProgram(p)
	m, e := enc.Encode(p)
	if e != api.OK {
		t.Fatalf("P22.1: Encode of %.3000s: %d", asm.Text(p), e)
	}
	if dumpProgram(p) != before {
		t.Fatalf("R4: Encode changes %.3000s", before)
	}
	return m
}

// lifted is what Lift answers. It asks that nothing is changed, and that what is answered with an error is nothing.
func lifted(t *testing.T, m enc.Image) (asm.Prog, api.Errno) {
	t.Helper()
	m = spareImage(m)
	before := dumpImage(m)
	p, e := enc.Lift(m)
	if dumpImage(m) != before {
		t.Fatalf("R4: Lift changes %.3000s", before)
	}
	if e != api.OK && (e != api.EFORM || asm.Text(p) != asm.Text(asm.Prog{})) {
		t.Fatalf("P22.3: Lift of %.3000s: %d, %.3000s", before, e, asm.Text(p))
	}
	return p, e
}

// reads asks that Decode answers what the second reading does.
func (s *second) reads(t *testing.T, m enc.Image, at int) (asm.Ins, bool) {
	t.Helper()
	want, size, ok := s.read(m, at)
	e := api.OK
	if !ok {
		e = api.EFORM
	}
	i, n, g := enc.Decode(m, at)
	if i != want || n != size || g != e {
		t.Fatalf("P22.2: Decode of %.1000s at %d (% x): %+v, %d, %d; want %+v, %d, %d", dumpImage(m), at, m.Code[at:min(at+12, len(m.Code))], i, n, g, want, size, e)
	}
	return want, ok
}

// fields tells which ones the table of chapter 20 names.
func fields(op int) string {
	return map[int]string{asm.MovR: "RM", asm.MovK: "RK", asm.Load: "SRMK", asm.Store: "SRMK", asm.Lea: "RMK", asm.LeaG: "SRK", asm.Alu: "SRM", asm.AluK: "SRK", asm.Un: "SR", asm.Ext: "SRM", asm.Shift: "SRK", asm.ShiftC: "SR", asm.Idiv: "M", asm.Cmp: "RM", asm.CmpK: "RK", asm.Set: "CR", asm.Jmp: "L", asm.Jcc: "CL", asm.Label: "L", asm.Call: "S", asm.Enter: "K", asm.Leave: "K"}[op]
}

// with has other numbers in those fields that are not named.
func with(i asm.Ins, number int) asm.Ins {
	all := asm.Ins{Op: i.Op, R: number, M: number, Sub: number, Cc: number, L: number, K: int64(number)}
	for _, field := range fields(i.Op) {
		switch field {
		case 'R':
			all.R = i.R
		case 'M':
			all.M = i.M
		case 'S':
			all.Sub = i.Sub
		case 'C':
			all.Cc = i.Cc
		case 'L':
			all.L = i.L
		case 'K':
			all.K = i.K
		}
	}
	return all
}

func bare(i asm.Ins) asm.Ins { return with(i, 0) }

func stuffed(i asm.Ins) asm.Ins { return with(i, lowest+0x7F7F7F7F) }
