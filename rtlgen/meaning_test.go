package rtlgen

import (
	"fmt"
	"math/rand"
	"strings"
	"testing"

	"plumbob/api"
	"plumbob/core"
	"plumbob/rtl"
	"plumbob/sample"
	"plumbob/trace"
)

// TestTales has every kind of statement and expression: what a source does its graphs do, at each fuel on the way.
func TestTales(t *testing.T) {
	for _, tale := range sample.Tales() {
		c := trioOf(t, tale.Text)
		if r := c.holdsThroughout(tale.Args, tale.World); end(r) != tale.End {
			t.Errorf("P8.1: %s with %v / %v: %s, want %s", tale.Text, tale.Args, tale.World, end(r), tale.End)
		}
	}
}

// TestOperations has each operation on two variables, and on one and a constant, at the types' edges.
func TestOperations(t *testing.T) {
	halts := 0
	for _, op := range []string{"+", "-", "*", "/", "%", "&", "|", "^", "<<", ">>", "==", "!=", "<", "<=", ">", ">=", "&&", "||"} {
		for _, typ := range []string{"char", "int", "long"} {
			for _, pattern := range []string{"a~b", "a~3", "3~a", "a~(-2147483649)", "(a~b)+(b~a)", "!(a~b)"} {
				e := strings.ReplaceAll(pattern, "~", op)
				c := trioOf(t, fmt.Sprintf("long main(%s a,long b){if(%s)out(%s);return %s;}", typ, e, e, e))
				for i, a := range edges {
					for _, b := range []int64{a, 3, edges[(i*7+3)%len(edges)]} {
						if c.holds(l(a, b), nil, 60).Kind == api.Halt {
							halts++
						}
					}
				}
			}
		}
	}
	if halts < 15000 {
		t.Errorf("P10.2: but %d runs that halt", halts)
	}
}

// TestLongRuns has the greatest fuel that P10.2 asks of, of runs that end and of such as don't.
func TestLongRuns(t *testing.T) {
	for _, c := range []struct {
		text string
		args []int64
		want string
	}{
		{"int main(){long x=1;while(1){x=x*3+1;out(x);}return 0;}", nil, "fuel"},
		{"int main(int n){while(n)n=n-1;return 3;}", l(14000), "halt 3"},
		{"void f(){}int main(int n){while(n){f();f();f();f();f();f();f();f();n=n-1;}return 3;}", l(3000), "halt 3"},
		{"int f(int n){&n;if(n)return f(n-1);return 0;}int main(int n){int m=5;while(m){f(n);m=m-1;}return 3;}", l(998), "halt 3"},
		{"int f(int n){char x[1000];x[999]=n;if(n)return f(n-1)+x[999]/x[999];return 0;}int main(int n){return f(n);}", l(100), "halt 100"},
	} {
		p := trioOf(t, c.text)
		if r := p.holds(c.args, nil, 99990); end(r) != c.want {
			t.Errorf("P8.1: %s: %s, want %s", c.text, end(r), c.want)
		}
	}
	// As many calls within one another as a source may have, each in as deep a part as may be.
	for _, wrap := range [][2]string{{"", ""}, {"-", ""}, {"1+(", ")"}, {"n-(", ")"}, {"h(", ")"}, {"1&&(", ")"}, {"!", ""}, {"k(1,n,", ")"}} {
		deep := strings.Repeat(wrap[0], 60) + "f(n-1)" + strings.Repeat(wrap[1], 60)
		c := trioOf(t, "long h(long n){return n;}long k(int a,int b,long c){return a+b*c;}long f(int n){if(n)return "+deep+";return 0;}long main(int n){return f(n);}")
		source, made := c.told(l(998), nil, 10000000), c.run(l(998), nil, 10000000)
		if source.Kind != api.Halt || !trace.Same(source, made) || made.Steps > 100*source.Steps+1000 {
			t.Errorf("P10.2: %s: %s, %d steps, the source %s, %d", c.text, end(made), made.Steps, end(source), source.Steps)
		}
	}
}

// TestGreatTexts has as many of one thing as there may be.
func TestGreatTexts(t *testing.T) {
	nested := func(front, open, middle, shut string, times int) string {
		return front + strings.Repeat(open, times) + middle + strings.Repeat(shut, times)
	}
	for _, text := range []string{
		nested("int main(){", ";", "return 7;}", "", 19000), nested("int main(){long a=1;out(a", "+a*2", ");return 7;}", "", 90), nested("int main(){long a=1;out(", "a+(a*", "2", ")", 90) + ");return 7;}", nested("int f(int a,int b,int c,int d,int e,int g){return a+g;}int main(){out(", "f(1,2,3,4,5,", "6", ")", 90) + ");return 7;}",
		nested("int main(){int a=0;", "if(a)out(1);else ", "return 7;}", "", 90), nested("int main(){int a=1;", "while(a)", "return 7;}", "", 90), nested("int main(){int a=1;", "while(a){a=a-1;", "out(a);", "}", 90) + "return 7;}", nested("int main(){int a=1;if(", "a&&(a||!(", "a", "))", 30) + ")return 7;}", nested("int main(){", "{", "return 7;", "}", 190) + "}",
		nested("int k[2];int main(){", "1+(", "k", ")", 90) + ";return 7;}", nested("int k[2];int main(){k[0]=0;out(k[", "k[", "0", "]", 60) + "]);return 7;}",
	} {
		c := trioOf(t, text)
		if r := c.holds(nil, nil, 30000); end(r) != "halt 7" {
			t.Errorf("P8.1: %.60s..: %s", text, end(r))
		}
		c.isTidy()
	}
}

// TestMeaningByChance asks P10.2 of programs made by chance, at many args, worlds and fuels.
func TestMeaningByChance(t *testing.T) {
	ends := map[int]int{}
	for seed := range int64(900) {
		r := rand.New(rand.NewSource(seed))
		c := trioOf(t, sample.New(r.Intn, int(seed%3*60)).Program())
		c.isTidy()
		for i, f := range c.chosen.Core().Functions {
			if !letsAreApart(f.Body) {
				t.Fatalf("a Let whose variable is another's: %s in %s", c.made.Funcs[i].Name, c.chosen.Text())
			}
		}
		for range 3 {
			args, world := somes(r, 4), somes(r, r.Intn(6))
			last := c.holds(args, world, 3000)
			ends[last.Kind]++
			for range 6 {
				c.holds(args, world, r.Intn(last.Steps+2))
			}
		}
	}
	t.Logf("ends %v", ends)
	if ends[api.Halt] < 1000 || ends[api.Stuck] < 50 || ends[api.Fuel] < 30 {
		t.Errorf("P10.2: the programs made by chance end %v", ends)
	}
}

// letsAreApart tells whether a Let's variable is given by no other one within its second part: so that a register may hold it.
func letsAreApart(n *core.Node) bool {
	for _, part := range n.Parts {
		if !letsAreApart(part) {
			return false
		}
	}
	return n.Kind != core.Let || !gives(n.Parts[1], n.N)
}

func gives(n *core.Node, variable int) bool {
	if n.Kind == core.Let && n.N == variable {
		return true
	}
	for _, part := range n.Parts {
		if gives(part, variable) {
			return true
		}
	}
	return false
}

// leakTheSame tells whether a source leaks the same at each fuel on two lists of args and worlds, and is not Stuck; and asks that then its graphs do, with any fuel. Of a long run some fuels are left out.
func (c *trio) leakTheSame(first, firstWorld, second, secondWorld []int64) bool {
	c.Helper()
	const most = 3000
	a, b := c.told(first, firstWorld, most), c.told(second, secondWorld, most)
	if a.Kind == api.Stuck || !trace.Leaks(a, b) || a.Steps != b.Steps {
		return false
	}
	for fuel := 0; fuel < a.Steps; fuel += 1 + a.Steps/200 {
		if !trace.Leaks(c.told(first, firstWorld, fuel), c.told(second, secondWorld, fuel)) {
			return false
		}
	}
	last := most / 4 // the source's run is known so far
	if a.Kind == api.Halt {
		last = c.run(first, firstWorld, 100*most+1000).Steps + 2
	}
	for fuel := 0; fuel <= last; fuel += 1 + last/300 {
		a, b := c.run(first, firstWorld, fuel), c.run(second, secondWorld, fuel)
		if !trace.Leaks(a, b) || a.Steps != b.Steps {
			c.Fatalf("P10.3: %.3000s with %v / %v and %v / %v: with fuel %d\n%d %s\n%d %s", c.text, first, firstWorld, second, secondWorld, fuel, a.Kind, tellLeaks(a.Leaks), b.Kind, tellLeaks(b.Leaks))
		}
	}
	return true
}

func TestTheSameLeaks(t *testing.T) {
	for _, text := range sample.Secrets() {
		c := trioOf(t, text)
		for i, s := range edges {
			if !c.leakTheSame(l(4, s, edges[(i*7+3)%len(edges)]), l(s, 2), l(4, edges[(i*5+1)%len(edges)], 9), l(-s)) {
				t.Errorf("P8.1: %s with %d does not leak the same", text, s)
			}
		}
	}
	for _, text := range sample.Shown() {
		c := trioOf(t, text)
		if trace.Leaks(c.run(l(0), nil, 1000), c.run(l(1), nil, 1000)) {
			t.Errorf("P13.1: %s leaks the same of 0 and 1", text)
		}
	}
}

// TestLeaksByChance asks P10.3 of programs made by chance, each with two lists of args and worlds that are the same in what is public.
func TestLeaksByChance(t *testing.T) {
	asked, unlike := 0, 0
	for seed := range int64(400) {
		r := rand.New(rand.NewSource(seed))
		c := trioOf(t, sample.New(r.Intn, int(seed%2*200)).Program())
		first, second := somes(r, 4), somes(r, 4)
		copy(second, first[:2])
		if c.leakTheSame(first, somes(r, 5), second, somes(r, 5)) {
			asked++
		} else {
			unlike++
		}
	}
	t.Logf("asked of %d, not of %d", asked, unlike)
	if asked < 250 || unlike < 5 {
		t.Errorf("P10.3: it is asked of %d programs made by chance, and not of %d", asked, unlike)
	}
}

// TestLeaks tells what runs leak: each branch its outcome, each access its own block, and no more.
func TestLeaks(t *testing.T) {
	for _, c := range []struct{ text, want string }{
		{"int main(int a){if(a)return 1;return 2;}", "b1"}, {"int main(int a){return a&&a<3||!a;}", "b1 b0 b0"}, {"int main(int a){return !a+(a<9);}", ""}, {"int main(int a){while(a>3)a=a-1;return a/2;}", "b1 b1 b0 d3/2"},
		{"int g[2];long h;int main(int a){int x[2];x[1]=a;g[1]=x[1];h=a;return g[1];}", "a3+4 a3+4 a1+4 a2+0 a1+4"},
		{"int f(int a){return a;}int k(int a){&a;return f(a);}int main(int a){out(f(1));int x;&x;x=k(2);return x;}", "c0 c1 a3+0 a3+0 c0 a1+0 a1+0"},
	} {
		p := trioOf(t, c.text)
		if s := tellLeaks(p.run(l(5), nil, 1000).Leaks); s != c.want {
			t.Errorf("P13.1: %s leaks %q, want %q: %s", c.text, s, c.want, rtl.Text(p.made))
		}
	}
}
