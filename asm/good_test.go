package asm_test

import (
	"math/rand"
	"slices"
	"strings"
	"testing"

	"plumbob/api"
	"plumbob/asm"
	"plumbob/listings"
)

// asked has what chapter 20's table and words ask of each Op: R, M any register in lower case, else not 4.
var asked = map[int]string{
	asm.MovR: "R m", asm.MovK: "R", asm.Load: "R m chunk k32", asm.Store: "r m chunk k32", asm.Lea: "R m k32", asm.LeaG: "R global", asm.Alu: "R M alu", asm.AluK: "R alu k32",
	asm.Un: "R un", asm.Ext: "R M ext", asm.Shift: "R shift k63", asm.ShiftC: "R shift", asm.Cqo: "", asm.Idiv: "M", asm.Cmp: "r M", asm.CmpK: "r k32", asm.Set: "R cc",
	asm.Jmp: "goal", asm.Jcc: "cc goal", asm.Label: "label", asm.Call: "function", asm.Ret: "", asm.Enter: "size", asm.Leave: "size", asm.InI: "", asm.OutI: "",
}

// The labels of the function around the instruction that is asked of, and how many functions there are.
var labels = []int{0, 5, 10000000}

const functions = 3

func around(i asm.Ins) asm.Prog {
	p := program(row(ret), row(label(0), label(5), i, ret, label(10000000)), row(label(7), jmp(7)))
	p.Main, p.Params = 2, 1
	return p
}

// fits tells whether one thing that is asked of an instruction holds.
func fits(what string, i asm.Ins) bool {
	is := func(n, least, most int64) bool { return n >= least && n <= most }
	switch what {
	case "R":
		return is(int64(i.R), 0, 15) && i.R != 4
	case "r":
		return is(int64(i.R), 0, 15)
	case "M":
		return is(int64(i.M), 0, 15) && i.M != 4
	case "m":
		return is(int64(i.M), 0, 15)
	case "chunk":
		return slices.Contains([]int{1, 4, 8}, i.Sub)
	case "alu":
		return slices.Contains([]int{api.Add, api.Sub, api.Mul, api.And, api.Or, api.Xor}, i.Sub)
	case "un":
		return i.Sub == api.Neg || i.Sub == api.Not
	case "ext":
		return i.Sub == api.Ext8 || i.Sub == api.Ext32
	case "shift":
		return i.Sub == api.Shl || i.Sub == api.Shr
	case "function":
		return is(int64(i.Sub), 0, functions-1)
	case "global":
		return i.Sub == 0 && is(i.K, 0, 16) || i.Sub == 1 && is(i.K, 0, 8)
	case "k32":
		return is(i.K, -1<<31, 1<<31-1)
	case "k63":
		return is(i.K, 0, 63)
	case "size":
		return is(i.K, 0, 65536)
	case "cc":
		return is(int64(i.Cc), 21, 26)
	case "goal":
		return slices.Contains(labels, i.L)
	}
	return is(int64(i.L), 0, 10000000) && !slices.Contains(labels, i.L)
}

func fitsAll(i asm.Ins) bool {
	whats, ok := asked[i.Op]
	for _, what := range strings.Fields(whats) {
		ok = ok && fits(what, i)
	}
	return ok
}

// numbers are those at the edges of all that is asked.
var numbers = []int{lowest, -1<<31 - 1, -1 << 31, -2, -1, 0, 1, 2, 3, 4, 5, 6, 7, 8, 9, 10, 11, 12, 13, 14, 15, 16, 17, 18, 19, 20, 21, 26, 27, 62, 63, 64, 65535, 65536, 65537, 9999999, 10000000, 10000001, 1<<31 - 1, 1 << 31, 1 << 32, 1<<32 + 1, 1<<40 + 5, highest}

// right is an instruction of an Op that may be.
func right(op int) asm.Ins {
	i := asm.Ins{Op: op, R: 1, M: 2, Cc: api.Lt, L: 5, K: 8}
	for _, sub := range []int{0, 4, api.Not, api.Ext8, api.Add, api.Shr} {
		i.Sub = sub
		if fitsAll(i) {
			break
		}
		if op == asm.Label {
			i.L = 6
		}
	}
	return i
}

func asks(t *testing.T, i asm.Ins) {
	t.Helper()
	p := around(i)
	want := fitsAll(i)
	if got := asm.Good(p); got != want {
		t.Fatalf("P20.1: Good with %+v: %t", i, got)
	}
	if want {
		return
	}
	if r, e := asm.Run(p, l(1), nil, 5, 99); e != api.EARG || told(r) != told(api.Run{}) {
		t.Fatalf("P20.1: Run with %+v: %d, %s", i, e, told(r))
	}
	if n, e := asm.Peak(p, l(1), nil, 5); e != api.EARG || n != 0 {
		t.Fatalf("P20.1: Peak with %+v: %d, %d", i, n, e)
	}
}

func field(i *asm.Ins, number, n int) {
	switch number {
	case 6:
		i.K = int64(n)
	default:
		*[]*int{&i.Op, &i.R, &i.M, &i.Sub, &i.Cc, &i.L}[number] = n
	}
}

// TestGoodFields has each field of each Op by itself at all edges, and with fields that are not asked of any numbers.
func TestGoodFields(t *testing.T) {
	for op := 1; op <= 26; op++ {
		if !fitsAll(right(op)) {
			t.Fatalf("%d: %+v is not right", op, right(op))
		}
		for number := 1; number < 7; number++ {
			for _, n := range numbers {
				i := right(op)
				field(&i, number, n)
				asks(t, i)
			}
		}
	}
	for _, op := range numbers {
		i := right(asm.Cqo)
		i.Op = op
		asks(t, i)
	}
}

// TestGoodByChance has all fields at any edges at once.
func TestGoodByChance(t *testing.T) {
	r := rand.New(rand.NewSource(20))
	good := 0
	for range 200000 {
		i := right(1 + r.Intn(26))
		for range 1 + r.Intn(4) {
			field(&i, 1+r.Intn(6), numbers[r.Intn(len(numbers))])
		}
		asks(t, i)
		if fitsAll(i) {
			good++
		}
	}
	if good < 20000 || good > 180000 {
		t.Errorf("%d of 200000 are well formed", good)
	}
}

// TestGoodAlone: what is not asked may hold anything, in all fields at once.
func TestGoodAlone(t *testing.T) {
	for _, n := range numbers {
		for _, i := range []asm.Ins{cqo, ret, in, out} {
			for number := 1; number < 7; number++ {
				field(&i, number, n)
			}
			asks(t, i)
		}
		asks(t, asm.Ins{Op: asm.MovK, R: 15, M: n, Sub: n, Cc: n, L: n, K: int64(n)})
		asks(t, asm.Ins{Op: asm.Jmp, R: n, M: n, Sub: n, Cc: n, L: 5, K: int64(n)})
		asks(t, asm.Ins{Op: asm.Call, R: n, M: n, Sub: 2, Cc: n, L: n, K: int64(n)})
		asks(t, asm.Ins{Op: asm.Leave, R: n, M: n, Sub: n, Cc: n, L: n, K: 65536})
	}
}

// TestGoodPrograms has what is asked of a whole program.
func TestGoodPrograms(t *testing.T) {
	many := func(count int, i asm.Ins) []asm.Ins { return slices.Repeat(row(i), count) }
	whole := func(params, main, functions int) asm.Prog {
		p := taking(params, program(slices.Repeat([][]asm.Ins{row(ret)}, functions)...))
		p.Main = main
		return p
	}
	globals := func(sizes ...int) asm.Prog {
		p := program(row(ret))
		p.Globals = sizes
		return p
	}
	for _, c := range []struct {
		what string
		p    asm.Prog
		want bool
	}{
		{"nothing", asm.Prog{}, false}, {"one function", whole(0, 0, 1), true}, {"main 1 of 1", whole(0, 1, 1), false}, {"main 1 of 2", whole(0, 1, 2), true}, {"main -1", whole(0, -1, 2), false}, {"main 1<<32", whole(0, 1<<32, 2), false},
		{"params -1", whole(-1, 0, 1), false}, {"params 1", whole(1, 0, 1), true}, {"params 6", whole(6, 0, 1), true}, {"params 7", whole(7, 0, 1), false}, {"params lowest", whole(lowest, 0, 1), false},
		{"100 functions", whole(0, 99, 100), true}, {"101 functions", whole(0, 99, 101), false},
		{"no globals", globals(), true}, {"200 globals", globals(make([]int, 200)...), true}, {"201 globals", globals(make([]int, 201)...), false}, {"the greatest global", globals(0, 65536), true}, {"one too great", globals(0, 65537), false}, {"one below 0", globals(-1, 0), false},
		{"no code", program(row()), false}, {"another function without code", program(row(ret), row()), false}, {"a Label alone", program(row(label(1))), false}, {"Labels alone", program(row(ret), row(label(1), label(2))), false}, {"a Label, and more", program(row(label(1), cqo)), true}, {"a Label behind", program(row(in, label(0))), true},
		{"100000 instructions", program(many(100000, ret)), true}, {"100001 instructions", program(many(100001, ret)), false}, {"100001 of another function", program(row(ret), many(100001, cqo)), false},
		{"a Label twice", program(row(label(3), ret, label(3))), false}, {"one twice, side by side", program(row(label(3), label(3), ret)), false}, {"one in two functions", program(row(label(3), jmp(3)), row(jcc(api.Eq, 3), label(3))), true}, {"a label of another function", program(row(ret), row(label(1), ret), row(jmp(1))), false},
		{"a Jmp without Labels", program(row(jmp(0))), false}, {"a Jcc without Labels", program(row(jcc(api.Eq, 0), ret)), false}, {"a jump back", program(row(label(0), jmp(0))), true}, {"one to the end", program(row(jmp(4), label(4))), true},
		{"a global's end", program(row(leaG(0, 1, 8))), true}, {"a byte behind", program(row(leaG(0, 1, 9))), false}, {"a global that is none", program(row(leaG(0, 2, 0))), false}, {"a call of itself", program(row(call(0))), true}, {"one of none", program(row(call(1))), false},
	} {
		if got := asm.Good(c.p); got != c.want {
			t.Errorf("P20.1: Good of %s: %t", c.what, got)
		}
		if _, e := asm.Run(c.p, make([]int64, max(0, min(9, c.p.Params))), nil, 0, 0); (e == api.OK) != c.want {
			t.Errorf("P20.1: Run of %s: %d", c.what, e)
		}
	}
}

// TestGoodOfAnything: nothing panics, and nothing is changed, whatever is handed in.
func TestGoodOfAnything(t *testing.T) {
	runs := 0
	for n := range 5000 {
		r := rand.New(rand.NewSource(int64(n)))
		p := spare(listings.Broken(r.Intn))
		before := dump(p)
		good := asm.Good(p)
		run, e := asm.Run(p, make([]int64, 1), l(3), 100, 100)
		peak, also := asm.Peak(p, make([]int64, 1), l(3), 100)
		text := asm.Text(p)
		if e != also || (e == api.OK) != (good && p.Params == 1) || e != api.OK && (e != api.EARG || peak != 0 || told(run) != told(api.Run{})) {
			t.Errorf("P20.1: %s: Good %t, Run %d, Peak %d, %d", text, good, e, peak, also)
		}
		if e == api.OK {
			runs++
		}
		if dump(p) != before || asm.Text(p) != text {
			t.Errorf("R4: %s: it is changed", text)
		}
	}
	if runs == 0 {
		t.Errorf("none is well formed")
	}
}
