package asm

import (
	"strconv"
	"strings"

	"plumbob/words"
)

// names has the registers' names.
var names = [...]string{"rax", "rcx", "rdx", "rbx", "rsp", "rbp", "rsi", "rdi", "r8", "r9", "r10", "r11", "r12", "r13", "r14", "r15"}

// teller tells a program: a line for each global, function and instruction. A field that its Op's shape does not name is told where it is not 0, so that unlike programs are told unlike.
type teller struct{ text strings.Builder }

func (t *teller) program(p *Prog) {
	t.line("main", strconv.Itoa(p.Main), "of", strconv.Itoa(p.Params))
	for n, size := range p.Globals {
		t.line("global", strconv.Itoa(n), "of", strconv.Itoa(size), "bytes")
	}
	for n, f := range p.Funcs {
		t.line("function", strconv.Itoa(n), strconv.Quote(f.Name))
		for n := range f.Code {
			t.instruction(&f.Code[n])
		}
	}
}

func (t *teller) line(l ...string) { t.text.WriteString(strings.Join(l, " ") + "\n") }

func (t *teller) instruction(i *Ins) {
	s := shapeOf(i.Op)
	t.text.WriteString("\t" + s.operation(i.Op))
	t.field(" Sub=", s.sub != anySub, int64(i.Sub), s.sub.tell(i.Sub))
	t.field(" Cc=", s.cc, int64(i.Cc), words.Operation(i.Cc))
	t.field(" R=", s.r != unnamed, int64(i.R), registerTold(i.R))
	t.field(" M=", s.m != unnamed, int64(i.M), registerTold(i.M))
	t.field(" K=", s.k != anyK, i.K, strconv.FormatInt(i.K, 10))
	t.field(" L=", s.l, int64(i.L), strconv.Itoa(i.L))
	t.text.WriteByte('\n')
}

// operation tells an Op: its number, if it is none.
func (s shape) operation(op int) string {
	if s.name == "" {
		return strconv.Itoa(op)
	}
	return s.name
}

func (t *teller) field(name string, isNamed bool, n int64, told string) {
	if isNamed || n != 0 {
		t.text.WriteString(name + told)
	}
}

// tell tells a Sub: an operation by its word.
func (s sub) tell(n int) string {
	switch s {
	case arithmetic, negation, extension, shifting:
		return words.Operation(n)
	}
	return strconv.Itoa(n)
}

// registerTold tells a register: its number, if it is none.
func registerTold(n int) string {
	if !within(n, registers-1) {
		return strconv.Itoa(n)
	}
	return names[n]
}
