package listings

import (
	"math/rand"
	"slices"
	"testing"

	"plumbob/api"
	"plumbob/asm"
)

// TestPrograms: programs by chance are well formed; without slips they halt, or are out of fuel, and with some they end in any way.
func TestPrograms(t *testing.T) {
	for _, c := range []struct {
		slips, deep int
		want        [5]int // at least so many of each end, of 400
	}{{0, 0, [5]int{0, 370, 0, 0, 0}}, {20, 0, [5]int{0, 100, 0, 100, 0}}, {0, 12, [5]int{0, 100, 0, 0, 100}}} {
		var ends [5]int
		ops := map[int]int{}
		for n := range 400 {
			r := rand.New(rand.NewSource(int64(n)))
			p := New(r.Intn, c.slips).Deep(c.deep).Program()
			if !asm.Good(p) {
				t.Fatalf("number %d with slips %d is not well formed: %s", n, c.slips, asm.Text(p))
			}
			args := make([]int64, p.Params)
			run, e := asm.Run(p, args, []int64{1, -2, 3}, 20000, 4000)
			if e != api.OK || c.slips+c.deep == 0 && run.Kind == api.Stuck {
				t.Fatalf("number %d with slips %d: %d, %d behind %d steps: %s", n, c.slips, e, run.Kind, run.Steps, asm.Text(p))
			}
			ends[run.Kind]++
			for _, f := range p.Funcs {
				for _, i := range f.Code {
					ops[i.Op]++
				}
			}
		}
		for kind, want := range c.want {
			if ends[kind] < want {
				t.Errorf("with slips %d, deep %d: ends %v, want %v", c.slips, c.deep, ends, c.want)
			}
		}
		if len(ops) != asm.OutI {
			t.Errorf("with slips %d: just %d ops", c.slips, len(ops))
		}
	}
}

// TestWild: they are well formed, with all ops, and with labels that no jump names, and that stand side by side.
func TestWild(t *testing.T) {
	ops := map[int]int{}
	beside := 0
	for n := range 500 {
		p := Wild(rand.New(rand.NewSource(int64(n))).Intn)
		if !asm.Good(p) {
			t.Fatalf("number %d is not well formed: %s", n, asm.Text(p))
		}
		for _, f := range p.Funcs {
			for at, i := range f.Code {
				ops[i.Op]++
				if at > 0 && i.Op == asm.Label && f.Code[at-1].Op == asm.Label {
					beside++
				}
			}
		}
	}
	if len(ops) != asm.OutI || beside < 100 {
		t.Errorf("just %d ops, and %d labels beside labels", len(ops), beside)
	}
}

// TestBroken: most are not well formed, and some are.
func TestBroken(t *testing.T) {
	good := 0
	for n := range 20000 {
		if asm.Good(Broken(rand.New(rand.NewSource(int64(n))).Intn)) {
			good++
		}
	}
	if good < 20 || good > 10000 {
		t.Errorf("%d of 20000 are well formed", good)
	}
}

// TestSame: one's choices tell all of a program.
func TestSame(t *testing.T) {
	var texts []string
	for range 2 {
		r := rand.New(rand.NewSource(5))
		texts = append(texts, asm.Text(New(r.Intn, 9).Deep(9).Program())+asm.Text(Wild(r.Intn))+asm.Text(Broken(r.Intn)))
	}
	if len(slices.Compact(texts)) != 1 {
		t.Errorf("%s", texts)
	}
}
