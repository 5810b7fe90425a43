package sample

import (
	"strings"
	"testing"

	"plumbob/api"
	"plumbob/ast"
	"plumbob/check"
	"plumbob/clight"
	"plumbob/trace"
)

func checked(t *testing.T, text string) *check.Program {
	t.Helper()
	tree, at, e := ast.Parse(text)
	if e != api.OK {
		t.Fatalf("%s: %d at %v", text, e, at)
	}
	p, at, e := check.Check(tree)
	if e != api.OK {
		t.Fatalf("%s: %d at %v", text, e, at)
	}
	return p
}

// TestTales: each ends as it says.
func TestTales(t *testing.T) {
	for _, c := range Tales() {
		r, e := clight.Run(checked(t, c.Text), c.Args, c.World, 5000)
		lines := strings.Split(strings.TrimSuffix(trace.Text(r), "\n"), "\n")
		if end := lines[len(lines)-1]; e != api.OK || end != c.End {
			t.Errorf("%s with %v / %v: %s (%d), want %s", c.Text, c.Args, c.World, end, e, c.End)
		}
	}
}

// TestSecrets: what is secret is in no leak, and what is shown is.
func TestSecrets(t *testing.T) {
	for _, text := range Secrets() {
		p := checked(t, text)
		for fuel := 0; fuel < 300; fuel += 1 + fuel/30 {
			a, _ := clight.Run(p, []int64{4, 7, -1 << 63}, []int64{3, 4}, fuel)
			b, _ := clight.Run(p, []int64{4, -1 << 40, 255}, []int64{-9}, fuel)
			if a.Kind == api.Stuck || !trace.Leaks(a, b) {
				t.Errorf("%s: with fuel %d %+v and %+v", text, fuel, a, b)
			}
		}
	}
	for _, text := range Shown() {
		p := checked(t, text)
		a, _ := clight.Run(p, []int64{0}, nil, 1000)
		b, _ := clight.Run(p, []int64{1}, nil, 1000)
		if a.Kind != api.Halt || b.Kind != api.Halt || trace.Leaks(a, b) {
			t.Errorf("%s: %+v and %+v", text, a, b)
		}
	}
}
