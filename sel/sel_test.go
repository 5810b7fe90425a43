package sel

import (
	"slices"
	"strings"
	"testing"

	"plumbob/api"
	"plumbob/cmin"
	"plumbob/trace"
)

const (
	aMain   = "int main(){return 0;}"
	counter = "int main(int a){ long x = a; while (a) { out(x); a = a - 1; } return x / 3; }"
)

func TestExamples(t *testing.T) {
	for _, c := range []struct {
		text string
		args []int64
		want string
	}{
		{counter, l(2), "out 2\nout 2\nhalt 0\n"},
		{"int main(int a){return a*2;}", l(21), "halt 42\n"},
		{"char f(char c){return c;}int main(int a){return f(a);}", l(200), "halt -56\n"},
		{"int main(){int a[2];a[0]=7;int*p=a;out(*p);p=p+1;return p==a;}", nil, "out 7\nhalt 0\n"},
		{"int main(){return 1/0;}", nil, "stuck\n"},
		{"int main(int s){return s*3+(s==7);}", l(7), "halt 22\n"},
		{"int main(int s){if(s)return 1;return 2;}", l(0), "halt 2\n"},
	} {
		if s := trace.Text(trioOf(t, c.text).run(c.args, nil, 1000)); s != c.want {
			t.Errorf("P11.1: %s: %q, want %q", c.text, s, c.want)
		}
	}
}

func TestArgumentsOfRun(t *testing.T) {
	of2 := "int main(int a,int b){return a+1;}"
	of6 := "int main(int a,int b,int c,int d,int e,int f){return f*8;}"
	for _, c := range []struct {
		text string
		args []int64
		fuel int
		want api.Errno
	}{
		{aMain, nil, -1, api.EARG}, {aMain, nil, -1 << 63, api.EARG}, {aMain, nil, 0, api.OK}, {aMain, nil, 10000000, api.OK}, {aMain, nil, 10000001, api.EARG}, {aMain, nil, 1<<63 - 1, api.EARG},
		{aMain, l(), 5, api.OK}, {aMain, l(1), 5, api.EARG},
		{of2, nil, 5, api.EARG}, {of2, l(1), 5, api.EARG}, {of2, l(1, 2), 5, api.OK}, {of2, l(1, 2, 3), 5, api.EARG}, {of2, l(1), 10000001, api.EARG}, {of2, l(1, 2), -1, api.EARG}, {of2, l(1, 2), 0, api.OK}, {of2, l(1, 2), 10000000, api.OK},
		{"int f(int a){return a;}int main(){return f(1);}", l(1), 5, api.EARG}, {"int f(){return 1;}int main(int a){&a;return f();}int h(){return 1;}", l(1), 5, api.OK},
		{of6, l(1, 2, 3, 4, 5, 6), 5, api.OK}, {of6, l(1, 2, 3, 4, 5), 5, api.EARG}, {of6, l(1, 2, 3, 4, 5, 6, 7), 5, api.EARG},
	} {
		r, e := trioOf(t, c.text).chosen.Run(c.args, l(1), c.fuel)
		isZero := r.Kind == 0 && r.Exit == 0 && len(r.Events) == 0 && len(r.Leaks) == 0 && r.Steps == 0
		if e != c.want || isZero != (e != api.OK) {
			t.Errorf("P11.1: Run of %s with %v, %d: %+v, %d, want %d", c.text, c.args, c.fuel, r, e, c.want)
		}
	}
}

// TestConsts counts operations: those that are chosen with a constant, those that find one in a register, and accesses with an offset.
func TestConsts(t *testing.T) {
	for text, want := range map[string]int{
		// None.
		aMain:                                0,
		"int main(int a,int b){return a+b;}": 0,
		"int main(int a,int b){out(a-b*a/b%a);out(~a&b|a^-b);out(a<<b>>a);return 7;}":                                                                   0,
		"int main(int a,int b){while(a<b)a=b;if(a==b&&b>=a||a!=b)return a;return b;}":                                                                   0,
		"int g;long h[4];int f(int*p,char c){return *p+c;}int main(){int x=5;int*p=&x;out(in());g=3;*h=g;h[0]=9;out(sizeof(int)+(1+2));return f(p,2);}": 0,
		// One.
		"int main(int a){return a+1;}": 1, "int main(int a){return 1+a;}": 1, "int main(int a){return a-1;}": 1, "int main(int a){return 9-a;}": 1, "int main(int a){return a*8;}": 1, "int main(int a){return 7*a;}": 1,
		"int main(int a){return a/8;}": 1, "int main(int a){return 8%a;}": 1, "int main(int a){return a&6;}": 1, "int main(int a){return a<<3;}": 1, "int main(int a){return 1>>a;}": 1,
		"long main(long a){return a+4294967296;}": 1, "long main(long a){return a<9223372036854775807;}": 1, "int main(){return 1/0;}": 1, "int main(){return 1<<64;}": 1,
		"int main(int a){return a<3;}": 1, "int main(int a){return 3==a;}": 1, "int main(int a){if(a>3)return 1;return 2;}": 1, "int main(int a){if(a)return 1;return 2;}": 1, "int main(int a){while(a)a=0;return 2;}": 1, "int main(int a){return !a;}": 1,
		"int g[4];int main(){return g[1];}": 1, "int g[4];int main(){g[3]=2;return 1;}": 1, "int g[4];int main(int a){return g[a];}": 1, "struct s{int a;int b;};int main(){struct s x;x.b=in();return 1;}": 1, "struct s{int a;int b;};struct s g;int main(){return (&g)->b;}": 1,
		"int g[4];int*main2(){return &g[1];}int main(){return 1;}": 1,
		// Several that come together are one, or none.
		"long main(long a){return 1+(a+2)+3;}": 1, "long main(long a){return 1+(a-2)+1;}": 0, "int main(int a){return a*1;}": 0, "int main(int a){return !!(a<3);}": 1, "long main(long a,long b){return (a+1)+(b+2);}": 1,
		"struct t{int a;int b[3];};struct s{long l;struct t t[2];};struct s g[2];int main(){return g[1].t[1].b[2];}": 1,
		// Several.
		"int main(int a){return (a+1)*2;}": 2, "int main(int a){return (a+1)*2-(3-a);}": 3, "int main(int a){if(a<1||a>9&&a!=5)return a;return a/2;}": 4,
		"int main(int a){int x[4];x[1]=a*8;return 3+a-x[1]*1;}": 4, "int g[4];int main(int a){g[a+1]=g[a-1];return g[2];}": 5,
		"int f(int a){return a+1;}int h(int a){return a*3;}int main(int a){return f(a)-h(a)-1;}": 3,
	} {
		if n := trioOf(t, text).chosen.Consts(); n != want {
			t.Errorf("P11.1: Consts of %s: %d, want %d", text, n, want)
		}
	}
}

// TestChoices tells which operations are chosen: a constant's mark is #.
func TestChoices(t *testing.T) {
	for text, want := range map[string]string{
		"a+b": "(add v0 v1)", "a+3": "(add#3 v0)", "3+a": "(add#3 v0)", "a-3": "(add#-3 v0)", "3-a": "(sub 3 v0)", "a-(-3)": "(add#3 v0)", "a+0": "v0", "0+a": "v0", "a-0": "v0",
		"a+1+2": "(add#3 v0)", "1+(2+a)": "(add#3 v0)", "(a+1)+(b+2)": "(add#3 (add v0 v1))", "a+1-1": "v0", "a+(b+3)": "(add#3 (add v0 v1))", "a+3+b": "(add#3 (add v0 v1))", "(a+3)-b": "(sub (add#3 v0) v1)",
		"a*3": "(mul#3 v0)", "3*a": "(mul#3 v0)", "a*8": "(shl#3 v0)", "2*a": "(shl#1 v0)", "a*1": "v0", "1*a": "v0", "a*0": "(mul#0 v0)", "a*-1": "(mul#-1 v0)", "a*-8": "(mul#-8 v0)", "a*(-9223372036854775807-1)": "(shl#63 v0)", "a*4611686018427387904": "(shl#62 v0)",
		"a&5": "(and#5 v0)", "5|a": "(or#5 v0)", "a^-1": "(xor#-1 v0)", "a<<5": "(shl#5 v0)", "a>>63": "(shr#63 v0)", "a<<64": "(shl v0 64)", "a>>-1": "(shr v0 -1)", "5<<a": "(ext32 (shl 5 v0))",
		"a/8": "(div v0 8)", "a/1": "(div v0 1)", "a/0": "(div v0 0)", "a%8": "(mod v0 8)", "8/a": "(div 8 v0)", "-a": "(neg v0)", "~a": "(not v0)",
		"2+3*4": "14", "-5": "-5", "~0": "-1", "7/2": "3", "-7%3": "-1", "1/0": "(ext32 (div 1 0))", "2<3": "1", "!5": "0", "(char)200": "-56", "sizeof(long)*2": "16", "(1<<4)*a": "(shl#4 v0)",
		"a+2147483647": "(add#2147483647 v0)", "a+2147483648": "(add v0 2147483648)", "2147483648+a": "(add v0 2147483648)", "a-2147483648": "(add#-2147483648 v0)", "a-2147483649": "(add v0 -2147483649)", "a&4294967295": "(and v0 4294967295)", "a+2147483647+1": "(add v0 2147483648)", "a+2147483648-1": "(add#-1 (add v0 2147483648))",
		"a<3": "(lt#3 v0)", "3<a": "(gt#3 v0)", "3<=a": "(ge#3 v0)", "3>a": "(lt#3 v0)", "3>=a": "(le#3 v0)", "3==a": "(eq#3 v0)", "3!=a": "(ne#3 v0)", "a<2147483648": "(lt v0 2147483648)", "2147483648<a": "(lt 2147483648 v0)",
		"!a": "(eq#0 v0)", "!!a": "(ne#0 v0)", "!(a<b)": "(ge v0 v1)", "!(a==3)": "(ne#3 v0)", "(a<b)==0": "(ge v0 v1)", "0==(a<b)": "(ge v0 v1)", "(a<b)!=0": "(lt v0 v1)", "!!!(a>3)": "(le#3 v0)", "(a<b)==1": "(eq#1 (lt v0 v1))", "(a<b)==(a>b)": "(eq (lt v0 v1) (gt v0 v1))",
		"a&&b": "(&& (ne#0 v0) (ne#0 v1))", "a||b<3": "(|| (ne#0 v0) (lt#3 v1))", "!(a&&b)": "(|| (eq#0 v0) (eq#0 v1))", "!(a<3||!b)": "(&& (ge#3 v0) (ne#0 v1))", "(a&&b)==0": "(|| (eq#0 v0) (eq#0 v1))", "!(a&&(b||a<2))": "(|| (eq#0 v0) (&& (eq#0 v1) (ge#2 v0)))",
		"g[1]": "(load8#8 global0)", "g[a]": "(load8 (add global0 (shl#3 v0)))", "g[a+2]": "(load8 (add global0 (shl#3 (add#2 v0))))", "*(g+2)": "(load8#16 global0)", "g[-1]": "(load8#-8 global0)", "h[1].b": "(load4#28 global1)", "h[a].b": "(load4#4 (add global1 (mul#24 v0)))", "h[1].c[a]": "(load4#32 (add global1 (shl#2 v0)))", "(h+1)->b": "(load4#28 global1)",
		"c[3]": "(load1#3 global2)", "c[a]": "(load1 (add global2 v0))", "g[300000000]": "(load8 (add global0 2400000000))", "&g[1]==g": "(eq (add#8 global0) global0)",
	} {
		c := trioOf(t, "struct s{int a;int b;int c[4];};long g[4];struct s h[2];char c[4];long main(long a,long b){return "+text+";}")
		if s := strings.TrimPrefix(c.body(), "return "); s != want {
			t.Errorf("P11.1: %s is chosen as %s, want %s", text, s, want)
		}
	}
	for text, want := range map[string]string{
		"if(a<3);": "if (lt#3 v0); block", "if(!(3<a));": "if (le#3 v0); block", "if(a);": "if (ne#0 v0); block", "if(!a);": "if (eq#0 v0); block", "if(a+1);": "if (ne#0 (add#1 v0)); block", "if(a<b&&!b);": "if (&& (lt v0 v1) (eq#0 v1)); block", "while(!(a||b));": "while (&& (eq#0 v0) (eq#0 v1)); block", "while(1);": "while (ne#0 1); block", "if(g);": "if (ne#0 global0); block",
		"g[1]=a+1;": "store8#8 global0 (add#1 v0)", "*(g+a)=3;": "store8 (add global0 (shl#3 v0)) 3", "h->b=a;": "store4#4 global1 (ext32 v0)",
	} {
		c := trioOf(t, "struct s{int a;int b;int c[4];};long g[4];struct s h[2];long main(long a,long b){"+text+"}")
		if s := c.body(); s != want {
			t.Errorf("P11.1: %s is chosen as %s, want %s", text, s, want)
		}
	}
}

// TestText: Select of the same program is the same, and of one that does something else it is another.
func TestText(t *testing.T) {
	seen := map[string]string{}
	for _, body := range strings.Split("return a;@return b;@return 1;@return 2;@return 12;@out(a);return 1;@a;return 1;@a=1;return a;@b=1;return a;@int x=1;return x;@int x[2];return a;@int x[3];return a;@&a;return a;@"+
		"return -a;@return ~a;@return !a;@return (char)a;@return a+b;@return b+a;@return a-b;@return a*b;@return a/b;@return a%b;@return a&b;@return a|b;@return a^b;@return a<<b;@return a>>b;@return a<b;@return a<=b;@return a>b;@return a>=b;@return a==b;@return a!=b;@return a&&b;@return a||b;@"+
		"return a+1;@return a+2;@return a-1;@return 1-a;@return a*2;@return a*3;@return a/2;@return 2/a;@return a%2;@return a&2;@return a|2;@return a^2;@return a>>2;@return a<2;@return a<=2;@return a>2;@return a>=2;@return a==2;@return a!=2;@return !(a&&b);@return !(a||b);@"+
		"if(a)return 1;return 2;@if(!a)return 1;return 2;@if(a<b)return 1;return 2;@if(a);else return 1;return 2;@if(a);return 1;@while(a)return 1;return 2;@while(a)break;return 2;@while(a)continue;return 2;@while(a){break;}return 2;@while(a);return 2;@"+
		"return g;@return h;@return k[0];@return k[1];@return k[2];@return k[-1];@g=a;return 1;@h=a;return 1;@k[0]=a;return 1;@k[1]=a;return 1;@k[a]=1;return 1;@return f(a);@return e(a);@return f(b);@return f(e(a));@return e(f(a));@return in();@in();return 1;@return in()+in();@return *(a+k);@return *(k+a);@return *(char*)k;@*(char*)k=1;return a;@;return a;@out(in());return a;", "@") {
		text := "int g;char h;int k[3];int e(int a){return a;}int f(int a){return a;}int main(int a,int b){" + body + "}"
		c := trioOf(t, text)
		told, before := c.chosen.Text(), c.plain.Text()
		c.run(l(1, 2), nil, 100)
		again, _ := Select(c.plain)
		if told == "" || c.chosen.Text() != told || again.Text() != told || trioOf(t, text).chosen.Text() != told || again.Consts() != c.chosen.Consts() {
			t.Errorf("P11.2: Text of %s: %q", text, told)
		}
		if c.plain.Text() != before {
			t.Errorf("R4: Select of %s changes it: %q", text, c.plain.Text())
		}
		if other, isThere := seen[told]; isThere {
			t.Errorf("P11.1: %s and %s are told alike: %s", other, body, told)
		}
		seen[told] = body
	}
}

// TestFuel: at each fuel a run is the beginning of the one with more.
func TestFuel(t *testing.T) {
	for _, text := range []string{
		counter, "int f(int a){&a;out(a+1);return in()/(a+3);}int g[3];int main(int a){int i=0;while(!(i>=3)){g[i]=f(i*4)||i;i=1+i;}return a;}", "int main(int a){out(a-1);out(a);return 1/0;}", "int main(int a){while(a+1>0){out(in());1+(int*)&a;}}",
	} {
		c := trioOf(t, text)
		world := l(5, 6, 7)
		all := c.run(l(4), world, 1000)
		last := api.Run{}
		for fuel := range 1001 {
			r := c.run(l(4), world, fuel)
			if r.Steps != min(fuel, all.Steps) || (r.Kind == api.Fuel) != (fuel < all.Steps || all.Kind == api.Fuel) {
				t.Fatalf("P11.1: %s with fuel %d: %+v", text, fuel, r)
			}
			if fuel >= all.Steps && (!trace.Same(r, all) || !trace.Leaks(r, all)) {
				t.Fatalf("P11.1: %s with fuel %d: %+v, with 1000: %+v", text, fuel, r, all)
			}
			if len(last.Leaks) > len(r.Leaks) || !slices.Equal(last.Leaks, r.Leaks[:len(last.Leaks)]) || !trace.Prefix(last.Events, r.Events) {
				t.Fatalf("P11.1: %s: with fuel %d %+v, with one more %+v", text, fuel-1, last, r)
			}
			last = r
		}
		if len(all.Events) < 2 || len(all.Leaks) < 1 {
			t.Errorf("P11.1: %s: %+v", text, all)
		}
	}
	for _, fuel := range []int{0, 9999999, 10000000} {
		r := trioOf(t, "int main(int a){while(1)a=a+1;}").run(l(1), nil, fuel)
		if r.Kind != api.Fuel || r.Steps != fuel || fuel > 0 && len(r.Leaks) < fuel/100 {
			t.Errorf("P11.1: with fuel %d: %d, %d steps, %d leaks", fuel, r.Kind, r.Steps, len(r.Leaks))
		}
	}
}

// TestNothingIsKept: what is handed in is not changed, spare room included, and what is answered is new each time.
func TestNothingIsKept(t *testing.T) {
	c := trioOf(t, "int g[2];int main(int a,int b){&a;g[1]=g[1]+in();out(g[1]/a);return b+in();}")
	args, world := []int64{2, 3, 77, 78}, []int64{9, 5, 79}
	first := c.run(args[:2], world[:1], 1000)
	if !slices.Equal(args, l(2, 3, 77, 78)) || !slices.Equal(world, l(9, 5, 79)) {
		t.Errorf("R4: %v, %v", args, world)
	}
	args[0], world[0] = 1, 1
	want := "in 9\nout 4\nin 0\nhalt 3\na2+0 a1+4 a1+4 a1+4 a2+0 d9/2"
	for _, r := range []api.Run{first, c.run(l(2, 3), l(9), 1000), c.run(l(2, 3), l(9), 1000)} {
		if s := trace.Text(r) + tellLeaks(r.Leaks); s != want {
			t.Errorf("R4, R5: %q, want %q", s, want)
		}
		clear(r.Leaks[:cap(r.Leaks)])
		clear(r.Events[:cap(r.Events)])
	}
	for _, list := range [][]int64{nil, {}} {
		if r := trioOf(t, aMain).run(list, list, 1000); r.Kind != api.Halt || len(r.Events) > 0 || len(r.Leaks) > 0 {
			t.Errorf("R4: %+v", r)
		}
	}
}

// TestAtOnce: a program may be chosen from, and run, by several at once.
func TestAtOnce(t *testing.T) {
	c := trioOf(t, "int g[4];int f(int n){&n;if(!(n>=1))return g[1];g[1]=g[1]+n;return f(n-1);}int main(int n){return f(n);}")
	done := make(chan bool)
	for n := range int64(8) {
		go func(p *cmin.Prog) {
			made, _ := Select(p)
			r, e := made.Run(l(n*10), nil, 100000)
			done <- e == api.OK && r.Exit == n*10*(n*10+1)/2 && made.Text() == c.chosen.Text()
		}(c.plain)
	}
	for range 8 {
		if !<-done {
			t.Errorf("R5: at once")
		}
	}
}
