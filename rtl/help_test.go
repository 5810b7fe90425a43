package rtl

import (
	"fmt"
	"slices"
	"strings"
	"testing"

	"plumbob/api"
)

const (
	lowest  = -1 << 63
	highest = 1<<63 - 1
)

func l(numbers ...int64) []int64 { return numbers }

// alone is a program of one function.
func alone(regs int, code ...Instr) Prog {
	return Prog{Funcs: []Func{{Name: "main", Regs: regs, Code: code}}}
}

// row gives each instruction the next node to go on at.
func row(code ...Instr) []Instr {
	for n := range code {
		code[n].S = n + 1
	}
	return code
}

// told is all that a run came to: its events, its leaks, its end, and how many steps it made.
func told(r api.Run) string {
	var events, leaks []string
	for _, e := range r.Events {
		events = append(events, fmt.Sprintf("%s%d", []string{"?", "i", "o"}[e.Kind], e.V))
	}
	for _, k := range r.Leaks {
		switch k.Kind {
		case api.Branch, api.Call:
			leaks = append(leaks, fmt.Sprintf("%s%d", []string{"?", "b", "?", "?", "c"}[k.Kind], k.A))
			if k.B != 0 {
				leaks = append(leaks, "?")
			}
		case api.Addr:
			leaks = append(leaks, fmt.Sprintf("a%d+%d", k.A, k.B))
		default:
			leaks = append(leaks, fmt.Sprintf("d%d/%d", k.A, k.B))
		}
	}
	end := []string{"?", fmt.Sprintf("halt %d", r.Exit), "fuel", "stuck", "overflow"}[r.Kind]
	if r.Kind != api.Halt && r.Exit != 0 {
		end += "?"
	}
	parts := append(append(events, leaks...), end, fmt.Sprint(r.Steps))
	return strings.Join(parts, " ")
}

// runs asks what a run comes to; and that it goes on alike with each fuel, till it ends.
func runs(t *testing.T, p Prog, args, world []int64, want string) {
	t.Helper()
	r, e := Run(p, args, world, 1000000)
	if got := told(r); e != api.OK || got != want {
		t.Errorf("P12.1: %s%v, %v: %s (%d), want %s", Text(p), args, world, got, e, want)
		return
	}
	for fuel := range min(r.Steps, 200) {
		part, e := Run(p, args, world, fuel)
		if e != api.OK || part.Kind != api.Fuel || part.Exit != 0 || part.Steps != fuel {
			t.Errorf("P12.1: %s%v, %v with fuel %d: %s", Text(p), args, world, fuel, told(part))
		}
		if !begins(part.Events, r.Events) || !begins(part.Leaks, r.Leaks) {
			t.Errorf("P12.1: %s%v, %v with fuel %d: %s, not as %s begins", Text(p), args, world, fuel, told(part), want)
		}
	}
	if whole, _ := Run(p, args, world, r.Steps); told(whole) != want {
		t.Errorf("P12.1: %s%v, %v with fuel %d: %s, want %s", Text(p), args, world, r.Steps, told(whole), want)
	}
}

func begins[E comparable](part, whole []E) bool {
	return len(part) <= len(whole) && slices.Equal(part, whole[:len(part)])
}
