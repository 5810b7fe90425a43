package rtl

import (
	"fmt"
	"math/rand"
	"slices"
	"testing"
)

// exactly is a program written so that all that can be told of it can be read off.
func exactly(p Prog) string {
	s := fmt.Sprint(p.Main, len(p.Globals), p.Globals, len(p.Funcs))
	for _, f := range p.Funcs {
		s += fmt.Sprintf(" %x", f.Name) + fmt.Sprint(len(f.Params), f.Params, f.Regs, " ", f.Frame, " ", f.Entry, " ", len(f.Code))
		for _, i := range f.Code {
			s += fmt.Sprint([]int{i.Op, i.Sub, i.A, i.B, i.D, i.S, i.T}, i.K, len(i.Args), i.Args)
		}
	}
	return s
}

// apart asks that programs are told the same just if they are the same.
func apart(t *testing.T, l []Prog) {
	t.Helper()
	seen := map[string]string{}
	for _, p := range l {
		text, all := Text(p), exactly(p)
		if Text(p) != text {
			t.Errorf("P12.1: once more Text is another: %s", text)
		}
		if other, ok := seen[text]; ok && other != all {
			t.Errorf("P12.1: two programs are told the same: %s and %s: %s", other, all, text)
		}
		seen[text] = all
	}
	if len(seen) < 2 {
		t.Errorf("%d programs are no more than one", len(l))
	}
}

// TestTextNames has names with any bytes.
func TestTextNames(t *testing.T) {
	var l []Prog
	names := []string{"", "a", "A", " ", "  ", "a b", "\"", "\"\"", "\\", "\\\\", "\\\"", "\n", "\\n", "a\n", "a\nb", "\t", "\x00", "\\x00", "\xff", "\\xff", "\xfe", "\xff\xfe", "\ufffd", "\\ufffd", "é", "e\u0301", "\u2028", "\U0001F600", "()", "f\" of () with 0 registers and 0 bytes, from 0 on\nfunction 1 \"g"}
	for b := range 256 {
		names = append(names, string([]byte{byte(b)}), string([]byte{'x', byte(b)}))
	}
	for _, name := range names {
		p := alone(0, Instr{Op: Return, A: none})
		p.Funcs[0].Name = name
		l = append(l, p, Prog{Funcs: []Func{{Name: name}, {Name: "g"}}}, Prog{Funcs: []Func{{Name: "g"}, {Name: name}}})
	}
	apart(t, l)
}

// TestTextLists has lists of unlike lengths, and fields that stand beside one another.
func TestTextLists(t *testing.T) {
	var l []Prog
	some := [][]int{nil, {0}, {0, 0}, {1}, {1, 2}, {12}, {1, 2, 3}, {12, 3}, {1, 23}, {123}, {-1}, {1, -2}, {-1, 2}, {1, -23}, {2, 1}, {lowest}, {highest}}
	for _, list := range some {
		l = append(l, Prog{Globals: list}, Prog{Funcs: []Func{{Params: list}}})
		for op := range 17 {
			l = append(l, alone(0, Instr{Op: op, Args: list}))
		}
		for _, other := range some {
			l = append(l, Prog{Globals: list, Funcs: []Func{{Params: other}}}, Prog{Funcs: []Func{{Params: list, Code: []Instr{{Op: Call, Args: other}}}}}, alone(0, Instr{Op: Call, Args: list}, Instr{Op: Call, Args: other}))
		}
	}
	one, two := Instr{Op: Nop, S: 1}, Instr{Op: Return, A: none}
	l = append(l, Prog{}, Prog{Main: 1}, Prog{Main: -1}, Prog{Funcs: []Func{{}}}, Prog{Funcs: []Func{{}, {}}},
		Prog{Funcs: []Func{{Code: []Instr{one, two}}, {}}}, Prog{Funcs: []Func{{Code: []Instr{one}}, {Code: []Instr{two}}}}, Prog{Funcs: []Func{{}, {Code: []Instr{one, two}}}}, Prog{Funcs: []Func{{Code: []Instr{two, one}}, {}}})
	for _, list := range [][3]int{{0, 0, 0}, {1, 0, 0}, {0, 1, 0}, {0, 0, 1}, {1, 11, 1}, {11, 1, 1}, {1, 1, 11}, {-1, 1, 1}, {1, -1, 1}} {
		l = append(l, Prog{Funcs: []Func{{Regs: list[0], Frame: list[1], Entry: list[2]}}}, Prog{Main: list[0], Globals: list[1:]})
	}
	apart(t, l)
}

// TestTextFields has instructions of any Op, whose fields hold any number: each by itself, and all by chance.
func TestTextFields(t *testing.T) {
	var l []Prog
	ops := []int{lowest, -1, 0, 15, 16, 100, highest}
	for op := range asked {
		ops = append(ops, op)
	}
	slices.Sort(ops)
	for _, op := range ops {
		for _, base := range []Instr{{}, {Sub: 11, A: 1, B: 1, D: 1, K: 1, S: 1, T: 1, Args: []int{1}}, {A: -1, B: -1, D: -1, K: -1, S: -1, T: -1, Sub: -1}} {
			for field := range 7 {
				for n := -30; n <= 30; n++ {
					i := base
					i.Op = op
					set(&i, field, n)
					l = append(l, alone(0, i))
				}
			}
		}
	}
	r := rand.New(rand.NewSource(1))
	small := []int{0, 0, 0, -1, 1, 2, 11, 12, 21, -11}
	for range 60000 {
		i := Instr{Op: ops[r.Intn(len(ops))]}
		for field := range 7 {
			set(&i, field, small[r.Intn(len(small))])
		}
		for range r.Intn(3) {
			i.Args = append(i.Args, small[r.Intn(len(small))])
		}
		l = append(l, alone(0, i))
	}
	apart(t, l)
}

// TestTextSame: nil and an empty list are one.
func TestTextSame(t *testing.T) {
	a := Prog{Funcs: []Func{{Name: "f", Code: []Instr{{Op: Call}, {Op: Return}}}, {}}}
	b := Prog{Globals: []int{}, Funcs: []Func{{Name: "f", Params: []int{}, Code: []Instr{{Op: Call, Args: []int{}}, {Op: Return, Args: []int{}}}}, {Code: []Instr{}}}}
	if Text(a) != Text(b) || Text(Prog{}) != Text(Prog{Funcs: []Func{}}) {
		t.Errorf("P12.1: Text of nil and of an empty list: %s and %s", Text(a), Text(b))
	}
	want := "main 0\nglobal 0 of 16 bytes\nfunction 0 \"main\" of (1 0) with 2 registers and 8 bytes, from 1 on\n\t0: return A0\n\t1: bin sub A0 B-1 K7 D1 S2\n\t2: load 4 A1 K0 D0 S3\n\t3: call 0 (0 1) D-1 S4\n\t4: cond lt A0 B1 K0 S0 T3\n\t5: nop A9 S0\n\t6: 99 A1\n"
	p := Prog{Globals: []int{16}, Funcs: []Func{{Name: "main", Params: []int{1, 0}, Regs: 2, Frame: 8, Entry: 1, Code: []Instr{
		{Op: Return}, {Op: Bin, Sub: 12, B: none, K: 7, D: 1, S: 2}, {Op: Load, Sub: 4, A: 1, S: 3}, {Op: Call, Args: []int{0, 1}, D: none, S: 4}, {Op: Cond, Sub: 23, B: 1, T: 3}, {Op: Nop, A: 9}, {Op: 99, A: 1}}}}}
	if got := Text(p); got != want {
		t.Errorf("Text: %s, want %s", got, want)
	}
}

// TestDeed: it is what Text tells of a node, but for where it goes on.
func TestDeed(t *testing.T) {
	for _, c := range []struct {
		i    Instr
		want string
	}{
		{Instr{Op: Nop, S: 3}, "nop"}, {Instr{Op: Const, K: -5, D: 2, S: 3}, "const K-5 D2"}, {Instr{Op: Bin, Sub: 11, A: 1, B: 2, D: 3, S: 4}, "bin add A1 B2 K0 D3"}, {Instr{Op: Cond, Sub: 23, A: 1, B: none, K: 6, S: 4, T: 5}, "cond lt A1 B-1 K6"},
		{Instr{Op: Call, Sub: 7, Args: []int{1, 0}, D: none, S: 4}, "call 7 (1 0) D-1"}, {Instr{Op: Return, A: none}, "return A-1"}, {Instr{Op: 77, A: 1}, "77 A1"},
	} {
		if got := Deed(c.i); got != c.want {
			t.Errorf("Deed of %+v: %s, want %s", c.i, got, c.want)
		}
		elsewhere := c.i
		elsewhere.S, elsewhere.T = 70, 71
		if got := Deed(elsewhere); got != c.want {
			t.Errorf("Deed of %+v: %s, want %s", elsewhere, got, c.want)
		}
	}
}
