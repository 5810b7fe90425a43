package enc_test

import (
	"fmt"
	"math/rand"
	"slices"
	"testing"

	"plumbob/api"
	"plumbob/asm"
	"plumbob/bricks"
	"plumbob/enc"
	"plumbob/gen"
	"plumbob/ladder"
	"plumbob/linear"
	"plumbob/listings"
	"plumbob/mach"
	"plumbob/rtl"
	"plumbob/sample"
	"plumbob/trace"
)

// most is how much fuel a run is given.
const most = 20000

// labelSteps tells how many Labels a run that is over has stepped on: behind each stands one more that does nothing.
func labelSteps(t *testing.T, p asm.Prog, args, world []int64, limit int) int {
	t.Helper()
	double := p
	double.Funcs = nil
	for _, f := range p.Funcs {
		var code []asm.Ins
		for _, i := range f.Code {
			code = append(code, i)
			if i.Op == asm.Label {
				code = append(code, movR(15, 15))
			}
		}
		double.Funcs = append(double.Funcs, asm.Func{Name: f.Name, Code: code})
	}
	less, _ := asm.Run(p, args, world, most, limit)
	more, e := asm.Run(double, args, world, 2*most, limit)
	if e != api.OK || told(more)[:3] != told(less)[:3] {
		t.Fatalf("%d: %.1000s, and with more %.1000s", e, told(less), told(more))
	}
	return more.Steps - less.Steps
}

// does asks P22.4 of a program: the bytes do what it does, with as much fuel as it has without Labels. It tells how that ends.
func does(t *testing.T, p asm.Prog, args, world []int64, limit int) int {
	t.Helper()
	m := spareImage(encoded(t, p))
	before := dumpImage(m)
	r, _ := asm.Run(p, args, world, most, limit)
	b, e := enc.Run(m, args, world, most, limit)
	if e != api.OK {
		t.Fatalf("P22.3: Run of %.3000s: %d", asm.Text(p), e)
	}
	if r.Kind == api.Fuel { // with as much fuel it goes on farther
		if !begins(r, b) {
			t.Fatalf("P22.4: %.3000s: %.2000s, as bytes %.2000s", asm.Text(p), told(r), told(b))
		}
		return r.Kind
	}
	want := r
	want.Steps -= labelSteps(t, p, args, world, limit)
	if told(b) != told(want) || !trace.Same(r, b) || !trace.Leaks(r, b) {
		t.Fatalf("P22.4: %.3000s: %.2000s, as bytes %.2000s", asm.Text(p), told(want), told(b))
	}
	for fuel := 0; fuel < b.Steps; fuel += 1 + fuel/7 {
		part, e := enc.Run(m, args, world, fuel, limit)
		if e != api.OK || part.Kind != api.Fuel || part.Steps != fuel || part.Exit != 0 || !begins(part, b) {
			t.Fatalf("P22.3: %.3000s: with fuel %d: %.2000s (%d), and in all %.2000s", asm.Text(p), fuel, told(part), e, told(b))
		}
	}
	if exact, _ := enc.Run(m, args, world, b.Steps, limit); told(exact) != told(b) {
		t.Fatalf("P22.3: %.3000s: with fuel %d: %.2000s, want %.2000s", asm.Text(p), b.Steps, told(exact), told(b))
	}
	if dumpImage(m) != before {
		t.Fatalf("R4: Run changes %.2000s", before)
	}
	return r.Kind
}

// begins tells whether a run is as another one begins.
func begins(part, r api.Run) bool {
	return trace.Prefix(part.Events, r.Events) && slices.Equal(part.Leaks, r.Leaks[:min(len(part.Leaks), len(r.Leaks))])
}

// TestRunRefused has args, fuel and limits at their edges, of an image that is right, and of one that is not.
func TestRunRefused(t *testing.T) {
	right := encoded(t, asm.Prog{Params: 2, Funcs: []asm.Func{{Code: row(label(1), alu(api.Add, 7, 6), label(2), movR(0, 7), ret)}}})
	wrong := right
	wrong.Code = []byte{0x90}
	for _, c := range []struct {
		what        string
		args        []int64
		fuel, limit int
		want        string
	}{
		{"all", l(5, 6), 100000000, all, "halt 11|3"}, {"just enough", l(5, 6), 3, 8, "halt 11|3"}, {"fuel 2", l(5, 6), 2, 8, "fuel|2"}, {"no fuel", l(5, 6), 0, 8, "fuel|0"}, {"limit 7", l(5, 6), 3, 7, "overflow|0"}, {"limit 0", l(5, 6), 0, 0, "overflow|0"},
		{"fuel -1", l(5, 6), -1, 8, ""}, {"fuel 100000001", l(5, 6), 100000001, 8, ""}, {"the least fuel", l(5, 6), lowest, 8, ""}, {"all fuel", l(5, 6), highest, 8, ""},
		{"limit -1", l(5, 6), 9, -1, ""}, {"limit 1<<31", l(5, 6), 9, 1 << 31, ""}, {"the least limit", l(5, 6), 9, lowest, ""}, {"the greatest limit", l(5, 6), 9, highest, ""},
		{"no args", nil, 9, 8, ""}, {"an arg too few", l(5), 9, 8, ""}, {"an arg too many", l(5, 6, 7), 9, 8, ""}, {"all wrong", nil, -1, -1, ""},
	} {
		r, e := enc.Run(right, c.args, l(1), c.fuel, c.limit)
		if c.want != "" && (e != api.OK || told(r) != c.want) {
			t.Errorf("P22.3: Run with %s: %s (%d), want %s", c.what, told(r), e, c.want)
		}
		if c.want == "" && (e != api.EARG || told(r) != told(api.Run{})) {
			t.Errorf("P22.3: Run with %s: %s (%d)", c.what, told(r), e)
		}
		want := api.EFORM
		if c.want == "" {
			want = api.EARG // the one that the chapter names first
		}
		if r, e := enc.Run(wrong, c.args, l(1), c.fuel, c.limit); e != want || told(r) != told(api.Run{}) {
			t.Errorf("P22.3: Run of no instructions with %s: %s (%d), want %d", c.what, told(r), e, want)
		}
	}
}

// TestFreeLabels: a Label is nothing, wherever it stands.
func TestFreeLabels(t *testing.T) {
	for _, c := range []struct {
		what string
		code []asm.Ins
		fuel int
		want string
	}{
		{"labels side by side", row(label(1), label(2), movK(0, 5), label(3), label(4), ret, label(5)), 2, "halt 5|2"}, {"one that is a goal", row(movK(0, 5), jmp(3), label(3), ret), 3, "halt 5|3"}, {"the same with less", row(movK(0, 5), jmp(3), label(3), ret), 2, "fuel|2"}, {"one at the end", row(jmp(3), label(3)), 1, "stuck|1"}, {"the same with more", row(jmp(3), label(3)), 9, "stuck|1"}, {"the same with less", row(jmp(3), label(3)), 0, "fuel|0"}, {"one that nothing goes to, at the end", row(cqo, label(3)), 9, "stuck|1"}, {"a jump to itself", row(label(3), jmp(3)), 7, "fuel|7"}, {"a loop", row(movK(0, 3), label(3), aluK(api.Sub, 0, 1), cmpK(0, 0), jcc(api.Gt, 3), ret), 11, "halt 0|branch1,0 branch1,0 branch0,0 11"}, {"the same with less", row(movK(0, 3), label(3), aluK(api.Sub, 0, 1), cmpK(0, 0), jcc(api.Gt, 3), ret), 10, "fuel|branch1,0 branch1,0 branch0,0 10"},
	} {
		r, e := enc.Run(encoded(t, program(c.code)), nil, nil, c.fuel, 8)
		if e != api.OK || told(r) != c.want {
			t.Errorf("P22.3: %s, with fuel %d: %s (%d), want %s", c.what, c.fuel, told(r), e, c.want)
		}
		does(t, program(c.code), nil, nil, 8)
	}
}

// TestRunByChance has programs by chance: some without a meaning, some deep in calls, with any limits; and wild ones.
func TestRunByChance(t *testing.T) {
	t.Parallel()
	ends := map[int]int{}
	for seed := range int64(1500) {
		r := rand.New(rand.NewSource(seed))
		p := listings.New(r.Intn, []int{0, 20, 60}[seed%3]).Deep([]int{0, 0, 12, 30}[seed%4]).Program()
		args, world := bricks.Some(r.Intn, p.Params), bricks.Some(r.Intn, 4)
		ends[does(t, p, args, world, []int{all, 3000, 100, 40}[r.Intn(4)])]++
		wild := listings.Wild(r.Intn)
		ends[does(t, wild, bricks.Some(r.Intn, wild.Params), world, 3000)]++
	}
	t.Log(ends)
	if ends[api.Halt] < 500 || ends[api.Fuel] < 100 || ends[api.Stuck] < 900 || ends[api.Overflow] < 200 {
		t.Errorf("P22.4: those made by chance end %v", ends)
	}
}

// TestSources has sources of every kind, and by chance: their code as bytes.
func TestSources(t *testing.T) {
	t.Parallel()
	ends := map[int]int{}
	ask := func(text string, isShort, isPeeped bool, args, world []int64) {
		_, p, e := ladder.Located(text, isShort)
		if e != api.OK {
			t.Fatalf("%.3000s: %d", text, e)
		}
		code := emitted(t, p)
		if isPeeped {
			for n, f := range code.Funcs {
				code.Funcs[n] = gen.Peep(f)
			}
		}
		ends[does(t, code, args[:min(len(args), code.Params)], world, all)]++
	}
	for n, tale := range sample.Tales() {
		ask(tale.Text, n%2 == 0, n%3 == 0, tale.Args, tale.World)
	}
	for seed := range int64(120) {
		r := rand.New(rand.NewSource(seed))
		ask(sample.New(r.Intn, int(seed%3*60)).Program(), seed%2 == 0, seed%3 == 0, bricks.Some(r.Intn, 6), bricks.Some(r.Intn, 5))
	}
	t.Log(ends)
	if ends[api.Halt] < 180 || ends[api.Stuck] < 15 {
		t.Errorf("P22.4: sources end %v", ends)
	}
}

// emitted is the code of a program over locations.
func emitted(t *testing.T, p rtl.Prog) asm.Prog {
	t.Helper()
	rows, e := linear.Flatten(p)
	if e != api.OK {
		t.Fatal(e)
	}
	framed, e := mach.Stack(rows)
	if e != api.OK {
		t.Fatal(e)
	}
	code, e := gen.Emit(framed)
	if e != api.OK {
		t.Fatal(e)
	}
	return code
}

// TestEach has images whose instructions reach the end, and such that don't; ranged over twice, and left early.
func TestEach(t *testing.T) {
	for _, c := range []struct {
		m    enc.Image
		want string
	}{
		{image("c3 48 99 48 ed c3"), "[0:22 1:13 3:25 5:22]"}, {image("c3 48 99 90 c3"), "[0:22 1:13]"}, {image("90 c3"), "[]"}, {image("c3 48"), "[0:22]"}, {image(""), "[]"}, {enc.Image{}, "[]"}, {image("e9 00 00 00 00"), "[0:18]"}, {image("c3 e9 01 00 00 00 c3"), "[0:22 1:18 6:22]"}, {image("c3 e9 02 00 00 00 c3"), "[0:22]"}, {starting(image("c3 e8 00 00 00 00 c3"), 9, 6, 6), "[0:22 1:21 6:22]"}, {starting(image("c3 e8 00 00 00 00 c3")), "[0:22]"}, {having(image("48 8d 1d f9 ff ff 00 c3"), -1), "[]"}, {having(image("48 8d 1d f9 ff ff 00 c3"), 0), "[0:6 7:22]"},
	} {
		m := spareImage(c.m)
		before := dumpImage(m)
		each := enc.Each(m)
		for _, l := range [][]byte{m.Code, m.Code[:cap(m.Code)]} {
			if s := gone(each); s != c.want {
				t.Errorf("P22.3: Each of %s: %s, want %s", before, s, c.want)
			}
			if dumpImage(m) != before {
				t.Errorf("R4: Each changes %s", before)
			}
			clear(l) // what has been handed in may be changed
			clear(m.Starts)
			clear(m.Globals[:cap(m.Globals)])
			before = dumpImage(m)
		}
	}
}

// gone tells the offsets and Ops of what an iterator gives.
func gone(each func(func(int, asm.Ins) bool)) string {
	l := []string{}
	for at, i := range each {
		l = append(l, fmt.Sprintf("%d:%d", at, i.Op))
	}
	return fmt.Sprint(l)
}

// TestEachLeft leaves at each instruction: no more are given, and once more all are.
func TestEachLeft(t *testing.T) {
	m := image("c3 48 99 48 ed c3")
	each := enc.Each(m)
	for last := range 4 {
		count := 0
		for range each {
			if count == last {
				break
			}
			count++
		}
		if count != last || gone(each) != "[0:22 1:13 3:25 5:22]" {
			t.Errorf("P22.3: left at number %d: %d, and then %s", last, count, gone(each))
		}
	}
	inner := ""
	for at := range each {
		for deep := range each {
			inner += fmt.Sprint(at, deep, " ")
		}
	}
	if inner != "0 0 0 1 0 3 0 5 1 0 1 1 1 3 1 5 3 0 3 1 3 3 3 5 5 0 5 1 5 3 5 5 " {
		t.Errorf("R8: one inside of another: %s", inner)
	}
}

// TestTiles: what Each gives of an image by Encode tiles its code, and is what Decode reads there.
func TestTiles(t *testing.T) {
	for seed := range int64(300) {
		p := listings.Wild(rand.New(rand.NewSource(seed)).Intn)
		m := encoded(t, p)
		next := 0
		for at, i := range enc.Each(m) {
			want, size, e := enc.Decode(m, at)
			if at != next || i != want || e != api.OK {
				t.Fatalf("P22.4: at %d, where %d is next: %+v, want %+v", at, next, i, want)
			}
			next += size
		}
		if next != len(m.Code) {
			t.Fatalf("P22.4: %d of %d bytes", next, len(m.Code))
		}
	}
}
