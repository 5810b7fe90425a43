package mach

import (
	"strconv"
	"strings"

	"plumbob/linear"
)

// teller tells a program: a line for each global, function and instruction.
type teller struct{ text strings.Builder }

func (t *teller) line(l ...string) { t.text.WriteString(strings.Join(l, " ") + "\n") }

func (t *teller) program(p *Parts) {
	t.line("main", strconv.Itoa(p.Main))
	for n, size := range p.Globals {
		t.line("global", strconv.Itoa(n), "of", strconv.Itoa(size), "bytes")
	}
	for n, f := range p.Functions {
		t.line("function", strconv.Itoa(n), strconv.Quote(f.Name), "of", strconv.Itoa(f.Params), "with", strconv.Itoa(f.Frame), "bytes, of which", strconv.Itoa(f.Block), "are its block's")
		for _, i := range f.Code {
			t.line("\t" + told(i))
		}
	}
}

// told tells an instruction.
func told(i linear.Ins) string {
	if i.Kind == Blank {
		return "blank D" + strconv.Itoa(i.Deed.D)
	}
	return linear.Tell(i)
}
