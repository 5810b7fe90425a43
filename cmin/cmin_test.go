package cmin

import (
	"fmt"
	"slices"
	"strings"
	"testing"

	"plumbob/api"
	"plumbob/trace"
)

const (
	aMain   = "int main(){return 0;}"
	counter = "int main(int a){ long x = a; while (a) { out(x); a = a - 1; } return x / 3; }"
)

func TestExamples(t *testing.T) {
	c := pairOf(t, counter)
	if s := trace.Text(c.run(l(2), nil, 1000)); s != "out 2\nout 2\nhalt 0\n" {
		t.Errorf("P10.1: main(2): %q", s)
	}
	c = pairOf(t, "int main(int a){ int x; int *p = &x; int y[2]; return 0; }")
	if n, e := c.made.Frame("main"); n != 16 || e != api.OK {
		t.Errorf("P10.1: Frame: %d, %d", n, e)
	}
	// Those of the whole that a source has.
	for _, c := range []tale{
		{"int main(int a){return a*2;}", l(21), nil, "halt 42\n"},
		{"char f(char c){return c;}int main(int a){return f(a);}", l(200), nil, "halt -56\n"},
		{"int main(){int a[2];a[0]=7;int*p=a;out(*p);p=p+1;return p==a;}", nil, nil, "out 7\nhalt 0\n"},
		{"int main(){return 1/0;}", nil, nil, "stuck\n"},
		{"int main(int s){return s*3+(s==7);}", l(7), nil, "halt 22\n"},
	} {
		if s := trace.Text(pairOf(t, c.text).run(c.args, c.world, 1000)); s != c.want {
			t.Errorf("P10.1: %s: %q, want %q", c.text, s, c.want)
		}
	}
}

func TestArgumentsOfRun(t *testing.T) {
	of2 := "int main(int a,int b){return a;}"
	of6 := "int main(int a,int b,int c,int d,int e,int f){return f;}"
	for _, c := range []struct {
		text string
		args []int64
		fuel int
		want api.Errno
	}{
		{aMain, nil, -1, api.EARG}, {aMain, nil, -1 << 63, api.EARG}, {aMain, nil, 0, api.OK}, {aMain, nil, 10000000, api.OK}, {aMain, nil, 10000001, api.EARG}, {aMain, nil, 1<<63 - 1, api.EARG},
		{aMain, l(), 5, api.OK}, {aMain, l(1), 5, api.EARG},
		{of2, nil, 5, api.EARG}, {of2, l(1), 5, api.EARG}, {of2, l(1, 2), 5, api.OK}, {of2, l(1, 2, 3), 5, api.EARG}, {of2, l(1), 10000001, api.EARG}, {of2, l(1, 2), -1, api.EARG}, {of2, l(1, 2), 0, api.OK},
		{"int f(int a){return a;}int main(){return f(1);}", l(1), 5, api.EARG}, {"int f(){return 1;}int main(int a){&a;return f();}int h(){return 1;}", l(1), 5, api.OK},
		{of6, l(1, 2, 3, 4, 5, 6), 5, api.OK}, {of6, l(1, 2, 3, 4, 5), 5, api.EARG}, {of6, l(1, 2, 3, 4, 5, 6, 7), 5, api.EARG},
	} {
		r, e := pairOf(t, c.text).made.Run(c.args, l(1), c.fuel)
		if e != c.want || e != api.OK && !isZero(r) || e == api.OK && isZero(r) {
			t.Errorf("P10.1: Run of %s with %v, %d: %+v, %d, want %d", c.text, c.args, c.fuel, r, e, c.want)
		}
	}
}

// TestLeaks: each branch, access, division and call that is done leaks, in its order, also one behind which the run is stuck.
func TestLeaks(t *testing.T) {
	for _, c := range []tale{
		{aMain, nil, nil, ""},
		{counter, l(2), nil, "b1 b1 b0 d2/3"},
		{"int main(int a){if(a)return 1;return 2;}", l(3), nil, "b1"}, {"int main(int a){if(a)return 1;else return 2;}", l(0), nil, "b0"},
		{"int main(int a){return a&&a-1;}", l(0), nil, "b0"}, {"int main(int a){return a&&a-1;}", l(1), nil, "b1 b0"}, {"int main(int a){return a&&a-1;}", l(2), nil, "b1 b1"},
		{"int main(int a){return a||a+1;}", l(0), nil, "b0 b1"}, {"int main(int a){return a||a+1;}", l(-1), nil, "b1"},
		{"int main(int a){if(!(a==3)&&!a)return a<2;return !a;}", l(0), nil, "b1 b1 b1"},
		{"int g;int h[3];int main(int a){g=a;h[a]=g;return h[1]+g;}", l(2), nil, "a1+0 a1+0 a2+8 a2+4 a1+0"},
		{"int main(int a,char b){int x=a;int y[2];y[1]=x;&x;&b;return b;}", l(5, 6), nil, "a1+0 a1+8 a1+8 a1+20 a1+0"},
		{"int main(int a){return a/3+7%a;}", l(-2), nil, "d-2/3 d7/-2"}, {"int main(int a){return 1/a;}", l(0), nil, "d1/0"}, {"int main(int a){return 1%a;}", l(0), nil, "d1/0"},
		{"int g;int main(){long x=*(long*)&g;return 1;}", nil, nil, "a1+0"},
		{"int g[2];int main(){return g[2];}", nil, nil, "a1+8"}, {"int main(){int*p=0;return *p;}", nil, nil, ""}, {"int main(){int x;return x/1;}", nil, nil, ""},
		{"void h(){}void f(){h();}int main(){f();h();return 0;}", nil, nil, "c1 c0 c0"},
		{"int f(int*p,int b){&p;&b;return *p;}int main(){int x=4;f(&x,2);return f(&x,3);}", nil, nil, "a1+0 c0 a2+0 a2+8 a2+0 a1+0 c0 a3+0 a3+8 a3+0 a1+0"},
		{"void f(int a){&a;}void h(int a){}int g;int main(){f(1);h(2);f(3);h(4);g=1;f(5);return 0;}", nil, nil, "c0 a2+0 c1 c0 a3+0 c1 a1+0 c0 a4+0"},
	} {
		if s := tellLeaks(pairOf(t, c.text).run(c.args, c.world, 1000).Leaks); s != c.want {
			t.Errorf("P10.1: %s with %v leaks %q, want %q", c.text, c.args, s, c.want)
		}
	}
}

// TestFuel: at each fuel a run is the beginning of the one with more.
func TestFuel(t *testing.T) {
	for _, text := range []string{
		counter, "int f(int a){&a;out(a);return in()/a;}int g[3];int main(int a){int i=0;while(i<3){g[i]=f(i+1)||i;i=i+1;}return a;}", "int main(int a){out(a);out(a);return 1/0;}", "int main(int a){while(a+1>0){out(in());1+(int*)&a;}}",
	} {
		c := pairOf(t, text)
		world := l(5, 6, 7)
		all := c.run(l(4), world, 1000)
		last := api.Run{}
		for fuel := range 1001 {
			r := c.run(l(4), world, fuel)
			if r.Steps != min(fuel, all.Steps) || (r.Kind == api.Fuel) != (fuel < all.Steps || all.Kind == api.Fuel) {
				t.Fatalf("P10.1: %s with fuel %d: %+v", text, fuel, r)
			}
			if fuel >= all.Steps && (!trace.Same(r, all) || !trace.Leaks(r, all)) {
				t.Fatalf("P10.1: %s with fuel %d: %+v, with 1000: %+v", text, fuel, r, all)
			}
			if len(last.Leaks) > len(r.Leaks) || !slices.Equal(last.Leaks, r.Leaks[:len(last.Leaks)]) || !trace.Prefix(last.Events, r.Events) {
				t.Fatalf("P10.1: %s: with fuel %d %+v, with one more %+v", text, fuel-1, last, r)
			}
			last = r
		}
		if len(all.Events) < 2 || len(all.Leaks) < 1 {
			t.Errorf("P10.1: %s: %+v", text, all)
		}
	}
}

// TestGreatFuel: as much as may be is used up, and what is given stays apart.
func TestGreatFuel(t *testing.T) {
	c := pairOf(t, "int main(){while(1);}")
	for _, fuel := range []int{0, 9999999, 10000000} {
		r := c.run(nil, nil, fuel)
		if r.Kind != api.Fuel || r.Steps != fuel || len(r.Leaks) > fuel/3 || fuel > 0 && len(r.Leaks) < fuel/100 {
			t.Errorf("P10.1: with fuel %d: %d, %d steps, %d leaks", fuel, r.Kind, r.Steps, len(r.Leaks))
		}
	}
	c = pairOf(t, "int f(int a){return f(a+1);}int main(){return f(0);}")
	if r := c.run(nil, nil, 10000000); r.Kind == api.Halt {
		t.Errorf("P10.1: calls without an end: %s", trace.Text(r))
	}
}

func TestFrame(t *testing.T) {
	records := "struct a{char c;};struct b{int i;char c;};struct c{char c[9];};struct d{long l;char c;};"
	six := "int f(char a,int b,long c,int*d,char*e,struct a*g)"
	for _, c := range []struct {
		function string
		want     int
	}{
		{"void f(){}", 0}, {"int f(int a,char b){long x;int*p;return 0;}", 0}, {"void f(){int x;int y=2;{int*p=&*p;}}", 0},
		{six + "{&a;&b;&c;&d;&e;&g;return 0;}", 48}, {six + "{&e;return 0;}", 8}, {six + "{&g;&a;return 0;}", 16},
		{"void f(char a){char b;char c;&a;&c;}", 16}, {"void f(){char b;&b;char c;&c;char d;&d;}", 24}, {"void f(){long b;&b;int*c;&c;}", 16},
		{"void f(){char a[1];}", 8}, {"void f(){char a[7];}", 8}, {"void f(){char a[8];}", 8}, {"void f(){char a[9];}", 16}, {"void f(){int a[3];}", 16}, {"void f(){long a[3];}", 24}, {"void f(){char*a[3];}", 24},
		{"void f(){struct a x;}", 8}, {"void f(){struct b x;}", 8}, {"void f(){struct c x;}", 16}, {"void f(){struct d x;}", 16}, {"void f(){struct a x[9];}", 16}, {"void f(){struct b x[3];}", 24}, {"void f(){struct c x[2];}", 24}, {"void f(){struct d x[2];}", 32},
		{"void f(char p,int q){char a[3];int b;struct c x;&b;long y;&p;{struct b z;int w;&w;}}", 8 + 8 + 8 + 16 + 8 + 8},
		{"void f(){char a[65536];}", 65536}, {"void f(){char a[65529];}", 65536}, {"void f(){char a[65528];char b;&b;}", 65536}, {"void f(){char a[65528];int b;&b;}", 65536},
		{six + "{char x[65536];return 0;}", 65536}, {six + "{char x[65536];&b;return 0;}", 65544}, {six + "{char x[65528];&a;&b;&c;&d;&e;&g;char y;&y;return 0;}", 65584},
	} {
		p := pairOf(t, records+c.function+"int z;char w[5];int main(int q){int x;&x;return 0;}").made
		for name, want := range map[string]int{"f": c.want, "main": 8} {
			if n, e := p.Frame(name); n != want || e != api.OK {
				t.Errorf("P10.1: %s: Frame(%s): %d, %d, want %d", c.function, name, n, e, want)
			}
		}
		for _, name := range []string{"", "z", "w", "x", "q", "a", "F", "f ", "ff", "mai", "main\x00", "in", "0"} {
			if n, e := p.Frame(name); n != 0 || e != api.ENONE {
				t.Errorf("P10.1: %s: Frame(%q): %d, %d", c.function, name, n, e)
			}
		}
	}
}

// TestHomes tells by the leaks where in a frame each one lies: in the order of simpl, not of use.
func TestHomes(t *testing.T) {
	text := "struct c{char c[9];int i;};int f(char a,int b,long d){{struct c x;x.i=1;x.c[8]=1;}char y[3];y[2]=1;long z;&z;int w;z=2;w=3;int v;v=4;&v;d=5;b=6;a=7;&d;&a;return 0;}int main(){return f(1,2,3);}"
	want := "c0 a1+0 a1+8 a1+28 a1+24 a1+34 a1+40 a1+48 a1+8 a1+0"
	if s := tellLeaks(pairOf(t, text).run(nil, nil, 1000).Leaks); s != want {
		t.Errorf("P10.1: %s leaks %q, want %q", text, s, want)
	}
}

// TestOneBlock: a frame is one block as long as there is one that is as great.
func TestOneBlock(t *testing.T) {
	for size, want := range map[int]string{65520: "a1+0 a1+8 a1+8 a1+0", 65528: "a1+0 a1+8 a1+8 a1+0", 65536: "a1+0 a2+0 a2+0 a1+0"} {
		text := fmt.Sprintf("int main(int n){char x[%d];&n;x[0]=7;return x[0]*0+n;}", size)
		r := pairOf(t, text).run(l(5), nil, 1000)
		if s := tellLeaks(r.Leaks); s != want || end(r) != "halt 5" {
			t.Errorf("P10.1: %s: %s leaks %q, want %q", text, end(r), s, want)
		}
	}
}

// TestStuck: what has no meaning here either is Stuck, behind all that was done ahead of it.
func TestStuck(t *testing.T) {
	for _, body := range []string{
		"return u;", "p=k;return *(long*)&p;", "out(u);return 1;", "p=k;out(*(long*)&p);return 1;", "return k[2];", "return k[-1];", "k[2]=1;return 1;", "return *p;", "*p=1;return 1;", "p=k;return *(int*)((char*)p+1);",
		"return 1/g;", "return 1%g;", "return u+1;", "return -u;", "return !u;", "if(u);return 1;", "while(u);return 1;", "return u&&1;", "return 1&&u;", "return *f(1);", "return *h();", "*h()=1;return 1;", "return *z(3);", "return *z(0);", "f(0);return 1;", "return 1<<(g-1);", "return (long)1<<64;", "return *q;",
	} {
		c := pairOf(t, "int g;int k[2];int*f(int a){&a;if(a)return &a;f(a);}int*h(){int x[2];return x;}char*z(char a){char x[65536];x[5]=4;&a;if(a)return x+5;return &a;}long main(){long u;int*p=0;int*q=0;&p;out(5);"+body+"}")
		if r := c.run(nil, nil, 1000000); end(r) != "stuck" || r.Exit != 0 || len(r.Events) != 1 || r.Steps == 0 {
			t.Errorf("P10.1: %s: %s, %d events", c.text, end(r), len(r.Events))
		}
	}
}

// TestText: of one program it is always the same; of one that does something else it is another.
func TestText(t *testing.T) {
	bodies := strings.Split("return a;~return b;~return 1;~return 2;~return 12;~out(a);return 1;~a;return 1;~a=1;return a;~b=1;return a;~int x=1;return x;~int x[2];return a;~int x[3];return a;~&a;return a;~"+
		"return -a;~return !a;~return (char)a;~return a+b;~return b+a;~return a-b;~return a*b;~return a/b;~return a%b;~return a&b;~return a|b;~return a^b;~return a<<b;~return a>>b;~return a<b;~return a<=b;~return a>b;~return a>=b;~return a==b;~return a!=b;~return a&&b;~return a||b;~"+
		"if(a)return 1;return 2;~if(a);else return 1;return 2;~if(a);return 1;~while(a)return 1;return 2;~while(a)break;return 2;~while(a)continue;return 2;~while(a){break;}return 2;~while(a);return 2;~"+
		"return g;~return h;~return k[0];~return k[1];~g=a;return 1;~h=a;return 1;~k[0]=a;return 1;~return f(a);~return e(a);~return f(b);~return f(e(a));~return e(f(a));~return in();~in();return 1;~return in()+in();~return *(1+k);~return *(k+1);~return *(1+(1+k));~return *(a+k);~return *(int*)k;~return *(char*)k;~*(int*)k=1;return a;~*(char*)k=1;return a;~;return a;~{return a;}~out(in());return a;", "~")
	seen := map[string]string{}
	for _, body := range append(bodies, "return ~a;") {
		text := "int g;char h;int k[2];int e(int a){return a;}int f(int a){return a;}int main(int a,int b){" + body + "}"
		c := pairOf(t, text)
		told := c.made.Text()
		c.run(l(1, 2), nil, 100)
		if told == "" || c.made.Text() != told || pairOf(t, text).made.Text() != told {
			t.Errorf("P10.1: Text of %s: %q", text, told)
		}
		if other, isThere := seen[told]; isThere {
			t.Errorf("P10.1: %s and %s are told alike: %s", other, body, told)
		}
		seen[told] = body
	}
	if s := pairOf(t, aMain).made.Text(); s == "" {
		t.Errorf("P10.1: Text of %s is empty", aMain)
	}
	// Sizes are told, too.
	if pairOf(t, "int g;"+aMain).made.Text() == pairOf(t, "long g;"+aMain).made.Text() {
		t.Errorf("P10.1: Text of globals")
	}
}

// TestNothingIsKept: what is handed in is not changed, spare room included, and what is answered is new each time.
func TestNothingIsKept(t *testing.T) {
	c := pairOf(t, "int g;int main(int a,int b){&a;g=g+in();out(g/a);return b+in();}")
	told := c.source.Tree().Text()
	args, world := []int64{2, 3, 77, 78}, []int64{9, 5, 79}
	first := c.run(args[:2], world[:1], 1000)
	if !slices.Equal(args, l(2, 3, 77, 78)) || !slices.Equal(world, l(9, 5, 79)) || c.source.Tree().Text() != told {
		t.Errorf("R4: %v, %v", args, world)
	}
	args[0], world[0] = 1, 1
	again := c.run(l(2, 3), l(9), 1000)
	want := "in 9\nout 4\nin 0\nhalt 3\na2+0 a1+0 a1+0 a1+0 a2+0 d9/2"
	for _, r := range []api.Run{first, again, c.run(l(2, 3), l(9), 1000)} {
		if s := trace.Text(r) + tellLeaks(r.Leaks); s != want {
			t.Errorf("R4, R5: %q, want %q", s, want)
		}
		clear(r.Leaks[:cap(r.Leaks)])
		clear(r.Events[:cap(r.Events)])
	}
	for _, list := range [][]int64{nil, {}} {
		if r := pairOf(t, aMain).run(list, list, 1000); r.Kind != api.Halt || len(r.Events) > 0 || len(r.Leaks) > 0 {
			t.Errorf("R4: %+v", r)
		}
	}
}

// TestRunsAtOnce: a program may be run by several at once, since no run keeps anything.
func TestRunsAtOnce(t *testing.T) {
	c := pairOf(t, "int g[4];int f(int n){&n;if(n<1)return g[0];g[0]=g[0]+n;return f(n-1);}int main(int n){return f(n);}")
	done := make(chan string)
	for n := range int64(8) {
		go func() {
			r, e := c.made.Run(l(n*10), nil, 100000)
			done <- fmt.Sprint(e == api.OK && r.Exit == n*10*(n*10+1)/2)
		}()
	}
	for range 8 {
		if s := <-done; s != "true" {
			t.Errorf("R5: runs at once")
		}
	}
}
