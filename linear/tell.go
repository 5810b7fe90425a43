package linear

import (
	"strconv"
	"strings"

	"plumbob/rtl"
)

// teller tells a program: a line for each global, function and instruction.
type teller struct{ text strings.Builder }

func (t *teller) line(l ...string) { t.text.WriteString(strings.Join(l, " ") + "\n") }

func (t *teller) program(p *Prog) {
	t.line("main", strconv.Itoa(p.main))
	for n, size := range p.globals {
		t.line("global", strconv.Itoa(n), "of", strconv.Itoa(size), "bytes")
	}
	for n, f := range p.functions {
		t.line("function", strconv.Itoa(n), strconv.Quote(f.Name), "of", strconv.Itoa(f.Params), "with", strconv.Itoa(f.Locations), "locations and", strconv.Itoa(f.Frame), "bytes")
		for _, i := range f.Code {
			t.line("\t" + told(i))
		}
	}
}

// told tells an instruction.
func told(i Ins) string {
	label := strconv.Itoa(i.Label)
	switch i.Kind {
	case Label:
		return "label " + label
	case Jump:
		return "jump " + label
	case Choice:
		return choiceTold(i) + label
	case Call:
		return "call " + strconv.Itoa(i.Deed.Sub)
	case Return:
		return "return"
	}
	return rtl.Deed(i.Deed)
}

// choiceTold tells a choice ahead of its label.
func choiceTold(i Ins) string {
	if i.IfSo {
		return rtl.Deed(i.Deed) + " goes to "
	}
	return rtl.Deed(i.Deed) + " stays, or goes to "
}
