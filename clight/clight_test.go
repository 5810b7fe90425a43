package clight

import (
	"slices"
	"strconv"
	"strings"
	"testing"

	"plumbob/api"
	"plumbob/ast"
	"plumbob/check"
	"plumbob/trace"
)

const aMain = "int main(){return 0;}"

func compile(t *testing.T, text string) *check.Program {
	t.Helper()
	tree, at, e := ast.Parse(text)
	if e != api.OK {
		t.Fatalf("P5.1: %.300s: %d at %v", text, e, at)
	}
	p, at, e := check.Check(tree)
	if e != api.OK {
		t.Fatalf("P7.1: %.300s: %d at %v", text, e, at)
	}
	return p
}

func l(numbers ...int64) []int64 { return numbers }

// run asks that a call of Run has no error, and that Safe says the same of it.
func run(t *testing.T, p *check.Program, args, world []int64, fuel int) api.Run {
	t.Helper()
	r, e := Run(p, args, world, fuel)
	if e != api.OK {
		t.Fatalf("P8.1: %.300s: Run(%v, %v, %d): %d", p.Tree().Text(), args, world, fuel, e)
	}
	if Safe(p, args, world, fuel) != (r.Kind != api.Stuck) {
		t.Errorf("P8.1: %.300s: Safe(%v, %v, %d) of a run with Kind %d", p.Tree().Text(), args, world, fuel, r.Kind)
	}
	return r
}

// ending tells how a run ended.
func ending(r api.Run) string {
	switch r.Kind {
	case api.Halt:
		return "halt " + strconv.FormatInt(r.Exit, 10)
	case api.Fuel:
		return "fuel"
	case api.Stuck:
		return "stuck"
	}
	return "none"
}

func tellLeak(k api.Leak) string {
	a, b := strconv.FormatInt(k.A, 10), strconv.FormatInt(k.B, 10)
	switch {
	case k.Kind == api.Addr:
		return "a" + a + "+" + b
	case k.Kind == api.Divide:
		return "d" + a + "/" + b
	case k.Kind == api.Branch && k.B == 0:
		return "b" + a
	case k.Kind == api.Call && k.B == 0:
		return "c" + a
	}
	return "none"
}

func tellEvent(v api.Event) string {
	n := strconv.FormatInt(v.V, 10)
	switch v.Kind {
	case api.In:
		return "i" + n
	case api.Out:
		return "o" + n
	}
	return "none"
}

// items tells what a run leaked and what it told, leaks first, behind some that another one did.
func items(r, other api.Run) string {
	s := ""
	for _, k := range r.Leaks[len(other.Leaks):] {
		s += " " + tellLeak(k)
	}
	for _, v := range r.Events[len(other.Events):] {
		s += " " + tellEvent(v)
	}
	return s
}

// begins asks that a run goes on as one with less fuel did.
func begins(t *testing.T, text string, less, more api.Run) {
	t.Helper()
	if len(less.Leaks) > len(more.Leaks) || len(less.Events) > len(more.Events) ||
		!slices.Equal(less.Leaks, more.Leaks[:len(less.Leaks)]) || !slices.Equal(less.Events, more.Events[:len(less.Events)]) {
		t.Fatalf("P8.2: %.300s: %+v, and with more fuel %+v", text, less, more)
	}
}

// story runs a program at each fuel up to where it ends, and tells it: a point for each step, and behind it what is seen till the next one:
// leaks (branches b, addresses a, divisions d, calls c), then events (in i, out o).
func story(t *testing.T, text string, args, world []int64) string {
	t.Helper()
	p := compile(t, text)
	all := run(t, p, args, world, maxFuel)
	if all.Steps > 3000 {
		t.Fatalf("P8.1: %.300s: %d steps", text, all.Steps)
	}
	told := ""
	var last api.Run
	for fuel := 0; fuel <= all.Steps+2; fuel++ {
		r := run(t, p, args, world, fuel)
		begins(t, text, last, r)
		told += items(r, last)
		last = r
		if r.Steps != min(fuel, all.Steps) || r.Kind != api.Halt && r.Exit != 0 {
			t.Errorf("P8.1: %.300s: with fuel %d: %+v", text, fuel, r)
		}
		if fuel >= all.Steps {
			if ending(r) != ending(all) {
				t.Errorf("P8.2: %.300s: with fuel %d: %s, with more %s", text, fuel, ending(r), ending(all))
			}
			continue
		}
		if r.Kind != api.Fuel {
			t.Errorf("P8.1: %.300s: with fuel %d of %d: %s", text, fuel, all.Steps, ending(r))
		}
		told += " ."
	}
	begins(t, text, last, all)
	told += items(all, last) + " " + ending(all)
	for strings.Contains(told, ". .") {
		told = strings.ReplaceAll(told, ". .", "..")
	}
	return strings.TrimSpace(told)
}

// tale is a text and what the chapter says of its run.
type tale struct {
	text        string
	args, world []int64
	want        string
}

// hold asks of each tale what is told of it.
func hold(t *testing.T, tales []tale, tell func(tale) string) {
	t.Helper()
	for _, c := range tales {
		if told := tell(c); told != c.want {
			t.Errorf("P8.1: %.2000s with %v / %v:\n%s, want\n%s", c.text, c.args, c.world, told, c.want)
		}
	}
}

// stories asks for each step.
func stories(t *testing.T, tales []tale) {
	t.Helper()
	hold(t, tales, func(c tale) string { return story(t, c.text, c.args, c.world) })
}

// deeds asks for all but the steps.
func deeds(t *testing.T, tales []tale) {
	t.Helper()
	hold(t, tales, func(c tale) string {
		r := run(t, compile(t, c.text), c.args, c.world, 1000000)
		return strings.TrimSpace(items(r, api.Run{}) + " " + ending(r))
	})
}

// outs asks for events and the end alone.
func outs(t *testing.T, tales []tale) {
	t.Helper()
	hold(t, tales, func(c tale) string {
		r := run(t, compile(t, c.text), c.args, c.world, 1000000)
		r.Leaks = nil
		return strings.TrimSpace(items(r, api.Run{}) + " " + ending(r))
	})
}

func TestExamples(t *testing.T) {
	text := "int main(int a){ long x = a; while (a) { out(x); a = a - 1; } return x / 3; }"
	deeds(t, []tale{
		{text, l(2), nil, "b1 b1 b0 d2/3 o2 o2 halt 0"},
		{text, l(7), nil, "b1 b1 b1 b1 b1 b1 b1 b0 d7/3 o7 o7 o7 o7 o7 o7 o7 halt 2"},
		{"int main(){int x; return x + 1;}", nil, nil, "stuck"},
		{"int main(){int x; return x;}", nil, nil, "stuck"},
	})
	// Those of the whole that speak of sources.
	deeds(t, []tale{
		{"int main(int a){return a*2;}", l(21), nil, "halt 42"},
		{"int main(){return 1/0;}", nil, nil, "d1/0 stuck"},
		{"char f(char c){return c;}int main(int a){return f(a);}", l(200), nil, "c0 halt -56"},
		{"int main(int s){if(s)return 1;return 2;}", l(0), nil, "b0 halt 2"},
		{"int main(int s){if(s)return 1;return 2;}", l(1), nil, "b1 halt 1"},
		{"int main(int s){return s*3+(s==7);}", l(0), nil, "halt 0"},
		{"int main(int s){return s*3+(s==7);}", l(7), nil, "halt 22"},
		{"long k[4];int main(int s){return k[s];}", l(0), nil, "a1+0 halt 0"},
		{"long k[4];int main(int s){return k[s];}", l(1), nil, "a1+8 halt 0"},
		{"int main(){int a[2];a[0]=7;int*p=a;out(*p);p=p+1;return p==a;}", nil, nil, "a1+0 a1+0 o7 halt 0"},
		{aMain, nil, nil, "halt 0"},
	})
	r := run(t, compile(t, "int main(){while(1)out(in());}"), nil, l(5), 9)
	if s := trace.Text(r); s != "in 5\nout 5\nfuel\n" {
		t.Errorf("P8.1: with fuel 9: %q", s)
	}
}

func TestArgumentsOfRun(t *testing.T) {
	for _, c := range []struct {
		text string
		args []int64
		fuel int
		want api.Errno
	}{
		{aMain, nil, -1, api.EARG}, {aMain, nil, -1 << 63, api.EARG}, {aMain, nil, 0, api.OK}, {aMain, nil, 10000000, api.OK}, {aMain, nil, 10000001, api.EARG}, {aMain, nil, 1<<63 - 1, api.EARG},
		{aMain, l(), 5, api.OK}, {aMain, l(1), 5, api.EARG},
		{"int main(int a,int b){return a;}", nil, 5, api.EARG}, {"int main(int a,int b){return a;}", l(1), 5, api.EARG}, {"int main(int a,int b){return a;}", l(1, 2), 5, api.OK}, {"int main(int a,int b){return a;}", l(1, 2, 3), 5, api.EARG},
		{"int main(int a,int b){return a;}", l(1), 10000001, api.EARG},
		{"int f(int a){return a;}int main(){return f(1);}", l(1), 5, api.EARG},
		{"int main(int a,int b,int c,int d,int e,int f){return f;}", l(1, 2, 3, 4, 5, 6), 5, api.OK}, {"int main(int a,int b,int c,int d,int e,int f){return f;}", l(1, 2, 3, 4, 5), 5, api.EARG},
	} {
		p := compile(t, c.text)
		r, e := Run(p, c.args, l(1), c.fuel)
		if e != c.want || e != api.OK && (r.Kind != 0 || r.Exit != 0 || len(r.Events) > 0 || len(r.Leaks) > 0 || r.Steps != 0) {
			t.Errorf("P8.1: Run of %s with %v, %d: %+v, %d, want %d", c.text, c.args, c.fuel, r, e, c.want)
		}
		if Safe(p, c.args, l(1), c.fuel) != (c.want == api.OK) {
			t.Errorf("P8.1: Safe of %s with %v, %d", c.text, c.args, c.fuel)
		}
	}
}

// TestSafe: a run that is Stuck is not safe from the fuel on with which it comes to that.
func TestSafe(t *testing.T) {
	p := compile(t, "int main(int a){out(1);return 1/a;}")
	for fuel, want := range []bool{true, true, true, true, true, true, true, false, false} {
		if Safe(p, l(0), nil, fuel) != want {
			t.Errorf("P8.1: Safe with fuel %d: %v", fuel, !want)
		}
		if !Safe(p, l(1), nil, fuel) {
			t.Errorf("P8.1: Safe with fuel %d of a run that has a meaning", fuel)
		}
	}
}

func TestGreatFuel(t *testing.T) {
	p := compile(t, "int main(){while(1);}")
	for _, fuel := range []int{9999999, 10000000} {
		r := run(t, p, nil, nil, fuel)
		// A block and a `while`, and then a test, a number and a `;` each time.
		if r.Kind != api.Fuel || r.Steps != fuel || len(r.Leaks) != (fuel-1)/3 {
			t.Errorf("P8.1: with fuel %d: %d, %d steps, %d leaks", fuel, r.Kind, r.Steps, len(r.Leaks))
		}
	}
	// A block, a declaration and its number, a `while`; each time a test of 4, a block, two statements with 4; at the end a test of 4, `return` and its name.
	p = compile(t, "int main(){int i=0;while(i<909090){i=i+1;i=i;}return i;}")
	if r := run(t, p, nil, nil, 10000000); ending(r) != "halt 909090" || r.Steps != 10000000 {
		t.Errorf("P8.1: %s, %d steps", ending(r), r.Steps)
	}
	if r := run(t, p, nil, nil, 9999999); r.Kind != api.Fuel || r.Steps != 9999999 {
		t.Errorf("P8.1: with one less: %s, %d steps", ending(r), r.Steps)
	}
}

// TestLeaksHangOnWhatIsSeen: of some programs all arguments leak the same at each fuel, of others not.
func TestLeaksHangOnWhatIsSeen(t *testing.T) {
	for text, areSame := range map[string]bool{
		"int main(int s){return s*3+(s==7);}": true, "int g;int main(int s){g=s<5;int x=-s^(~s>>3)&!s;g=x+(char)s;return g;}": true, "int f(int a){return a+1;}int main(int s){out(0*s);return f(s)+f(2*s);}": true,
		"int main(int s){if(s)return 1;return 2;}": false, "int main(int s){return s&&1;}": false, "int main(int s){return 1||s/3;}": true, "int main(int s){return s||1;}": false, "int main(int s){return s/3;}": false, "int main(int s){return 3%(s|1);}": false,
		"int g[2];int main(int s){return g[s!=0];}": false, "int g[2];int main(int s){g[0]=s;return g[1];}": true, "void f(){}void h(){}int main(int s){while(s){h();s=0;}f();return 0;}": false,
	} {
		p := compile(t, text)
		isSame := true
		for fuel := range 60 {
			first := run(t, p, l(0), nil, fuel)
			for _, n := range edges {
				isSame = isSame && trace.Leaks(first, run(t, p, l(n), nil, fuel))
			}
		}
		if isSame != areSame {
			t.Errorf("P8.1: %s: the same leaks: %v", text, isSame)
		}
	}
}

// TestGreatTexts has as many of one thing as a text has room for.
func TestGreatTexts(t *testing.T) {
	fill := func(head, pattern, end string, most int) string {
		var b strings.Builder
		b.WriteString(head)
		for i := range most {
			next := strings.ReplaceAll(pattern, "%", strconv.Itoa(i))
			if b.Len()+len(next)+len(end) > api.MaxText {
				break
			}
			b.WriteString(next)
		}
		return b.String() + end
	}
	stars := strings.Repeat("*", api.MaxText/2)
	for _, text := range []string{
		fill("int main(){", ";", "return 7;}", 19000), fill("int main(){out(0", "+1", ");return 7;}", 190), fill("int"+stars+"g;int main(){", "g=0;", "return 7;}", 6000), fill("int"+stars+"g;int main(){", "&g[%];", "return 7;}", 3900),
		fill("", "char g%[65536];", "int main(){return 7;}", 200), fill("int main(){", "int v%=v%;", "return 7;}", 200), fill("int main(){", "char v%;&v%;", "return 7;}", 200),
		fill("struct s{", "char f%;", "};struct s g;int main(){g.f1=7;return g.f1;}", 6000), fill("", "struct s%{char c;};", "int main(){struct s9 x;x.c=7;return x.c;}", 9999), fill("int f0(){return 7;}", "int f%a(){return f0();}", "int main(){return f97a();}", 98),
	} {
		if r := run(t, compile(t, text), nil, nil, 1000000); ending(r) != "halt 7" {
			t.Errorf("P8.1: %.60s..: %s", text, ending(r))
		}
	}
}

// TestNothingIsKept: what is handed in is not changed, spare room included, and what is answered is new each time.
func TestNothingIsKept(t *testing.T) {
	p := compile(t, "int g;int main(int a,int b){g=g+in();out(g/a);return b+in();}")
	told := p.Tree().Text()
	args, world := []int64{2, 3, 77, 78}, []int64{9, 5, 79}
	first := run(t, p, args[:2], world[:1], 100)
	if !slices.Equal(args, l(2, 3, 77, 78)) || !slices.Equal(world, l(9, 5, 79)) || p.Tree().Text() != told {
		t.Errorf("R4: %v, %v", args, world)
	}
	args[0], world[0] = 1, 1
	again := run(t, p, l(2, 3), l(9), 100)
	for _, r := range []api.Run{first, again} {
		if s := items(r, api.Run{}) + " " + ending(r); s != " a1+0 a1+0 a1+0 d9/2 i9 o4 i0 halt 3" {
			t.Errorf("R4, R5: %s", s)
		}
	}
	for _, r := range []api.Run{first, again} {
		clear(r.Leaks[:cap(r.Leaks)])
		clear(r.Events[:cap(r.Events)])
	}
	if r := run(t, p, l(2, 3), l(9), 100); items(r, api.Run{}) != " a1+0 a1+0 a1+0 d9/2 i9 o4 i0" {
		t.Errorf("R4: behind a change of what was answered: %+v", r)
	}
}

// TestNoEvents: nil and an empty list are one, handed in and answered.
func TestNoEvents(t *testing.T) {
	p := compile(t, aMain)
	for _, list := range [][]int64{nil, {}} {
		r := run(t, p, list, list, 3)
		if r.Kind != api.Halt || len(r.Events) > 0 || len(r.Leaks) > 0 || r.Steps != 3 {
			t.Errorf("P8.1: %+v", r)
		}
	}
}
