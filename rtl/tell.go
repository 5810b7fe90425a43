package rtl

import (
	"strconv"
	"strings"

	"plumbob/words"
)

// teller tells a program: a line for each global, function and node. What is not told of an instruction is 0 and not named by its Op's shape, so that unlike ones are told unlike.
type teller struct{ text strings.Builder }

func (t *teller) program(p *Prog) {
	t.line("main", strconv.Itoa(p.Main))
	for n, size := range p.Globals {
		t.line("global", strconv.Itoa(n), "of", strconv.Itoa(size), "bytes")
	}
	for n := range p.Funcs {
		t.function(n, &p.Funcs[n])
	}
}

func (t *teller) line(l ...string) { t.text.WriteString(strings.Join(l, " ") + "\n") }

func (t *teller) function(n int, f *Func) {
	t.line("function", strconv.Itoa(n), strconv.Quote(f.Name), "of", list(f.Params), "with", strconv.Itoa(f.Regs), "registers and", strconv.Itoa(f.Frame), "bytes, from", strconv.Itoa(f.Entry), "on")
	for n := range f.Code {
		t.text.WriteString("\t" + strconv.Itoa(n) + ":")
		t.instruction(&f.Code[n])
		t.text.WriteByte('\n')
	}
}

func (t *teller) instruction(i *Instr) {
	shape := shapeOf(i.Op)
	t.text.WriteByte(' ')
	t.deed(shape, i)
	t.field(" S", shape.s, int64(i.S))
	t.field(" T", shape.t, int64(i.T))
}

// deed tells what an instruction does.
func (t *teller) deed(shape shape, i *Instr) {
	t.operation(shape, i.Op)
	if shape.sub != anySub || i.Sub != 0 {
		t.text.WriteString(" " + shape.sub.tell(i.Sub))
	}
	t.field(" A", shape.a != unnamed, int64(i.A))
	t.field(" B", shape.b != unnamed, int64(i.B))
	t.field(" K", shape.k, i.K)
	if shape.args || len(i.Args) > 0 {
		t.text.WriteString(" " + list(i.Args))
	}
	t.field(" D", shape.d != unnamed, int64(i.D))
}

// operation tells an Op: its number, if it is none.
func (t *teller) operation(s shape, op int) {
	if s.name == "" {
		s.name = strconv.Itoa(op)
	}
	t.text.WriteString(s.name)
}

func (t *teller) field(name string, isNamed bool, n int64) {
	if isNamed || n != 0 {
		t.text.WriteString(name + strconv.FormatInt(n, 10))
	}
}

// tell tells a Sub: an operation by its word.
func (s sub) tell(n int) string {
	switch s {
	case unary, binary, comparison:
		return words.Operation(n)
	}
	return strconv.Itoa(n)
}

func list(l []int) string {
	var text strings.Builder
	text.WriteByte('(')
	for n, i := range l {
		if n > 0 {
			text.WriteByte(' ')
		}
		text.WriteString(strconv.Itoa(i))
	}
	text.WriteByte(')')
	return text.String()
}
