package linear

import (
	"strconv"
	"strings"

	"plumbob/rtl"
)

// teller tells a program: a line for each global, function and instruction.
type teller struct{ text strings.Builder }

func (t *teller) line(l ...string) { t.text.WriteString(strings.Join(l, " ") + "\n") }

func (t *teller) program(p *Parts) {
	t.line("main", strconv.Itoa(p.Main))
	for n, size := range p.Globals {
		t.line("global", strconv.Itoa(n), "of", strconv.Itoa(size), "bytes")
	}
	for n, f := range p.Functions {
		t.line("function", strconv.Itoa(n), strconv.Quote(f.Name), "of", strconv.Itoa(f.Params), "with", strconv.Itoa(f.Locations), "locations and", strconv.Itoa(f.Frame), "bytes")
		for _, i := range f.Code {
			t.line("\t" + Tell(i))
		}
	}
}

// Tell tells an instruction.
func Tell(i Ins) string {
	label := strconv.Itoa(i.Label)
	switch i.Kind {
	case Label:
		return "label " + label
	case Jump:
		return "jump " + label
	case Choice:
		return choiceTold(i) + label
	case Call:
		return "call " + strconv.Itoa(i.Deed.Sub)
	case Return:
		return "return"
	}
	return rtl.Deed(i.Deed)
}

// choiceTold tells a choice ahead of its label.
func choiceTold(i Ins) string {
	if i.IfSo {
		return rtl.Deed(i.Deed) + " goes to "
	}
	return rtl.Deed(i.Deed) + " stays, or goes to "
}
