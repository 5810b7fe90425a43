package rtlgen

import (
	"fmt"
	"slices"
	"strings"
	"testing"

	"plumbob/api"
	"plumbob/core"
	"plumbob/rtl"
	"plumbob/sample"
	"plumbob/sel"
	"plumbob/trace"
)

const aMain = "int main(){return 0;}"

func TestExamples(t *testing.T) {
	c := trioOf(t, aMain)
	if len(c.made.Funcs) != 1 || c.made.Main != 0 || len(c.made.Globals) != 0 || c.made.Funcs[0].Name != "main" {
		t.Errorf("P13.1: Build of %s: %s", aMain, rtl.Text(c.made))
	}
	for _, c := range []struct {
		text        string
		args, world []int64
		want        string
	}{
		{aMain, nil, nil, "halt 0\n"},
		{"int main(int a){ long x = a; while (a) { out(x); a = a - 1; } return x / 3; }", l(2), nil, "out 2\nout 2\nhalt 0\n"},
		{"char f(char c){return c;}int main(int a){return f(a);}", l(200), nil, "halt -56\n"},
		{"int main(){while(1)out(in());}", nil, l(5), "in 5\nout 5\nin 0\nout 0\nin 0\nout 0\nin 0\nfuel\n"},
		{"int main(){return 1/0;}", nil, nil, "stuck\n"},
		{"int main(){int a[2];a[0]=7;int*p=a;out(*p);p=p+1;return p==a;}", nil, nil, "out 7\nhalt 0\n"},
	} {
		if s := trace.Text(trioOf(t, c.text).run(c.args, c.world, 15)); s != c.want {
			t.Errorf("P13.1: %s: %q, want %q", c.text, s, c.want)
		}
	}
}

// TestOrder: functions and globals are those of the source in their order, with their names, parameters and sizes.
func TestOrder(t *testing.T) {
	for _, c := range []struct {
		text    string
		main    int
		globals []int
	}{
		{aMain, 0, nil},
		{"long g;char h[5];int f(int a){return a;}int main(){return f(2);}void z(){}", 1, []int{8, 5}},
		{"int f(int a,char b){&b;int x[3];x[0]=a;return b;}int e(){return f(1,2);}struct s{char c;long l;};struct s t[3];char d(long x,int*y,char z,struct s*s){&x;&y;return z;}char c;int main(char a,int b){&a;long q;&q;return a;}int k[7];", 3, []int{48, 1, 28}},
		{"int main(int a,int b,long c,char d,int e,int f){return f;}int zz(){return 0;}int aa(){return 1;}int*p;int main2(int main){return main;}", 0, []int{8}},
		{"char z[65536];char y[1];int f(){char x[65536];x[1]=2;return x[1];}int main(){return f();}", 1, []int{65536, 1}},
	} {
		p := trioOf(t, c.text)
		sigs := p.source.Sigs()
		if p.made.Main != c.main || !slices.Equal(p.made.Globals, c.globals) || len(p.made.Funcs) != len(sigs) {
			t.Errorf("P13.1: Build of %s: %s", c.text, rtl.Text(p.made))
			continue
		}
		for i, f := range p.made.Funcs {
			frame, _ := p.plain.Frame(f.Name)
			if f.Name != sigs[i].Name || len(f.Params) != len(sigs[i].Params) || f.Frame != frame {
				t.Errorf("P13.1: Build of %s: the function %d: %+v, in a source %+v with %d bytes", c.text, i, f, sigs[i], frame)
			}
		}
	}
	// As many functions and globals as there may be.
	many := ""
	for i := range 99 {
		many += fmt.Sprintf("int f%d(){return %d;}", i, i)
	}
	for i := range 200 {
		many += fmt.Sprintf("char g%d[%d];", i, i+1)
	}
	p := trioOf(t, many+"int main(){return f98()+sizeof(long);}").made
	if len(p.Funcs) != 100 || p.Main != 99 || len(p.Globals) != 200 || p.Globals[199] != 200 || p.Funcs[50].Name != "f50" {
		t.Errorf("P13.1: Build: %s", rtl.Text(p))
	}
}

// TestGraphs tells the nodes of small programs: of every kind of statement and expression.
func TestGraphs(t *testing.T) {
	front := "struct s{char c;int i;long l;};struct s g;long h[4];int f(long a,int b){return b;}void v(){}"
	for body, want := range map[string]string{
		"":                                       "return A-1",
		";{}{;}":                                 "return A-1",
		"return;":                                "return A-1",
		"a;":                                     "return A-1",
		"a=a;":                                   "return A-1",
		"a=b;":                                   "copy A1 D0 S1; return A-1",
		"a=7;":                                   "const K7 D0 S1; return A-1",
		"long x;x=5;a=x;":                        "const K5 D2 S1; copy A2 D0 S2; return A-1",
		"a=-a;":                                  "un neg A0 D0 S1; return A-1",
		"a=~b;":                                  "un not A1 D0 S1; return A-1",
		"a=(char)b;":                             "un ext8 A1 D0 S1; return A-1",
		"a=a+b;":                                 "bin add A0 B1 K0 D0 S1; return A-1",
		"a=a+5;":                                 "bin add A0 B-1 K5 D0 S1; return A-1",
		"a=5-a;":                                 "const K5 D2 S1; bin sub A2 B0 K0 D0 S2; return A-1",
		"a=(b+1)*(a-b)-a;":                       "bin add A1 B-1 K1 D2 S1; bin sub A0 B1 K0 D3 S2; bin mul A2 B3 K0 D2 S3; bin sub A2 B0 K0 D0 S4; return A-1",
		"a=a/8;":                                 "const K8 D2 S1; bin div A0 B2 K0 D0 S2; return A-1",
		"a=a<b;":                                 "bin lt A0 B1 K0 D0 S1; return A-1",
		"a=!a;":                                  "bin eq A0 B-1 K0 D0 S1; return A-1",
		"a=in();":                                "in D0 S1; return A-1",
		"in();":                                  "in D2 S1; return A-1",
		"out(a);":                                "out A0 S1; return A-1",
		"out(a+1);":                              "bin add A0 B-1 K1 D2 S1; out A2 S2; return A-1",
		"a=f(b,a);":                              "un ext32 A0 D2 S1; call 0 (1 2) D0 S2; return A-1",
		"f(1,2);":                                "const K1 D2 S1; const K2 D3 S2; call 0 (2 3) D-1 S3; return A-1",
		"a=f(f(a,1),f(b,2)+1);":                  "const K1 D2 S1; call 0 (0 2) D2 S2; const K2 D3 S3; call 0 (1 3) D3 S4; bin add A3 B-1 K1 D3 S5; un ext32 A3 D3 S6; call 0 (2 3) D0 S7; return A-1",
		"v();":                                   "call 1 () D-1 S1; return A-1",
		"v();return;v();":                        "call 1 () D-1 S1; return A-1",
		"a=h[1];":                                "global 1 K0 D2 S1; load 8 A2 K8 D0 S2; return A-1",
		"h[2]=a;":                                "global 1 K0 D2 S1; store 8 A2 B0 K16 S2; return A-1",
		"g.i=h[b];":                              "global 0 K0 D2 S1; global 1 K0 D3 S2; bin shl A1 B-1 K3 D4 S3; bin add A3 B4 K0 D3 S4; load 8 A3 K0 D3 S5; un ext32 A3 D3 S6; store 4 A2 B3 K4 S7; return A-1",
		"char x;long y[2];&x;y[1]=b;a=x;":        "frame K0 D2 S1; frame K8 D2 S2; store 8 A2 B1 K8 S3; frame K0 D2 S4; load 1 A2 K0 D0 S5; return A-1",
		"long*p=b+h;":                            "copy A1 D3 S1; global 1 K0 D4 S2; bin shl A3 B-1 K3 D5 S3; bin add A4 B5 K0 D2 S4; return A-1",
		"if(a)v();":                              "cond ne A0 B-1 K0 S1 T2; call 1 () D-1 S2; return A-1",
		"if(a<b)v();else out(b);":                "cond lt A0 B1 K0 S1 T3; call 1 () D-1 S2; return A-1; out A1 S2",
		"if(a);":                                 "cond ne A0 B-1 K0 S1 T1; return A-1",
		"if(a&&b<3)v();":                         "cond ne A0 B-1 K0 S1 T3; cond lt A1 B-1 K3 S2 T3; call 1 () D-1 S3; return A-1",
		"if(a||b<3)v();":                         "cond ne A0 B-1 K0 S1 T3; call 1 () D-1 S2; return A-1; cond lt A1 B-1 K3 S1 T2",
		"a=a&&b;":                                "cond ne A0 B-1 K0 S1 T4; cond ne A1 B-1 K0 S2 T4; const K1 D0 S3; return A-1; const K0 D0 S3",
		"a=!(a||b>2);":                           "cond eq A0 B-1 K0 S1 T4; cond le A1 B-1 K2 S2 T4; const K1 D0 S3; return A-1; const K0 D0 S3",
		"while(a)a=b;":                           "cond ne A0 B-1 K0 S1 T2; copy A1 D0 S0; return A-1",
		"while(1);":                              "const K1 D2 S1; cond ne A2 B-1 K0 S0 T2; return A-1",
		"while(a){if(b)break;v();continue;v();}": "cond ne A0 B-1 K0 S1 T2; cond ne A1 B-1 K0 S2 T3; return A-1; call 1 () D-1 S0",
		"while(a){while(b)break;out(a);}":        "cond ne A0 B-1 K0 S1 T3; cond ne A1 B-1 K0 S2 T2; out A0 S0; return A-1",
	} {
		p := trioOf(t, front+"void k(long a,long b){"+body+"}"+aMain).made
		if s := listing(p.Funcs[2]); s != want {
			t.Errorf("P13.1: %s is %s, want %s", body, s, want)
		}
	}
	for body, want := range map[string]string{
		"return a;": "return A0", "return a+b;": "bin add A0 B1 K0 D2 S1; return A2", "return 3;out(a);": "const K3 D2 S1; return A2", "if(a)return a;return b;": "cond ne A0 B-1 K0 S1 T2; return A0; return A1",
		"while(1)return a;": "const K1 D2 S1; cond ne A2 B-1 K0 S2 T3; return A0; return A-1",
	} {
		p := trioOf(t, front+"long k(long a,long b){"+body+"}"+aMain).made
		if s := listing(p.Funcs[2]); s != want {
			t.Errorf("P13.1: %s is %s, want %s", body, s, want)
		}
	}
}

// isTidy asks of a program that each function is as Compact leaves it, and that fields that the table does not name are 0.
func (c *trio) isTidy() {
	c.Helper()
	again := c.made
	again.Funcs = Chain(c.made.Funcs)
	if rtl.Text(again) != rtl.Text(c.made) {
		c.Errorf("P13.2: Build of %.3000s: %sand compact: %s", c.text, rtl.Text(c.made), rtl.Text(again))
	}
	for _, f := range c.made.Funcs {
		for _, i := range f.Code {
			if named := onlyNamed(i); fmt.Sprint(named) != fmt.Sprint(i) {
				c.Errorf("R2: Build of %.3000s: %+v, want %+v", c.text, i, named)
			}
		}
	}
}

// onlyNamed is an instruction with nothing but what the table names.
func onlyNamed(i rtl.Instr) rtl.Instr {
	o := rtl.Instr{Op: i.Op, S: i.S}
	switch i.Op {
	case rtl.Const, rtl.Frame:
		o.K, o.D = i.K, i.D
	case rtl.Copy:
		o.A, o.D = i.A, i.D
	case rtl.Un:
		o.Sub, o.A, o.D = i.Sub, i.A, i.D
	case rtl.Bin, rtl.Cond:
		o.Sub, o.A, o.B = i.Sub, i.A, i.B
		if i.B == -1 {
			o.K = i.K
		}
		if i.Op == rtl.Bin {
			o.D = i.D
		} else {
			o.T = i.T
		}
	case rtl.Load:
		o.Sub, o.A, o.K, o.D = i.Sub, i.A, i.K, i.D
	case rtl.Store:
		o.Sub, o.A, o.B, o.K = i.Sub, i.A, i.B, i.K
	case rtl.Global:
		o.Sub, o.K, o.D = i.Sub, i.K, i.D
	case rtl.Call:
		o.Sub, o.Args, o.D = i.Sub, i.Args, i.D
	case rtl.Return:
		o.A, o.S = i.A, 0
	case rtl.In:
		o.D = i.D
	case rtl.Out:
		o.A = i.A
	}
	return o
}

// lines is a source of a function whose graph has so many nodes.
func lines(nodes int) string {
	return "long k(long a,long b){" + strings.Repeat("a=b;", nodes-1) + "return a;}"
}

// TestNodes: a function may have 5000 nodes, and no more; what can't be reached, and what Compact leaves out, does not count.
func TestNodes(t *testing.T) {
	for _, c := range []struct {
		text string
		want api.Errno
	}{
		{lines(4999) + aMain, api.OK}, {lines(5000) + aMain, api.OK}, {lines(5001) + aMain, api.ELIMIT}, {aMain + lines(5001), api.ELIMIT}, {aMain + lines(6000), api.ELIMIT},
		{"int main(int a){" + strings.Repeat("a;", 4998) + "return 0;}", api.OK},
		{"long main(long a){" + strings.Repeat("out(a);", 4999) + "return a;}", api.OK}, {"long main(long a){" + strings.Repeat("out(a);", 5000) + "return a;}", api.ELIMIT},
		{"long main(long a){return a;" + strings.Repeat("out(a);", 5001) + "}", api.OK}, {"long main(long a){while(a){break;" + strings.Repeat("out(a);", 5001) + "}return a;}", api.OK},
		{"long main(long a){" + strings.Repeat("while(a)a=-a;", 2499) + "out(a);return a;}", api.OK}, {"long main(long a){" + strings.Repeat("while(a)a=-a;", 2499) + "out(a);out(a);return a;}", api.ELIMIT},
		{"void k(long a){" + strings.Repeat("out(a);", 4999) + "}" + aMain, api.OK}, {"void k(long a){" + strings.Repeat("out(a);", 5000) + "}" + aMain, api.ELIMIT},
		{lines(3000) + "long m(long a){" + strings.Repeat("out(a);", 3000) + "return a;}" + aMain, api.OK},
	} {
		_, _, chosen := chosenOf(t, c.text)
		p, e := Build(chosen)
		if e != c.want || e == api.OK && !rtl.Good(p) || e != api.OK && fmt.Sprint(p) != fmt.Sprint(rtl.Prog{}) {
			t.Errorf("P13.1: Build of %.60s.. (%d bytes): %d, want %d", c.text, len(c.text), e, c.want)
		}
	}
	if n := len(trioOf(t, lines(5000)+aMain).made.Funcs[0].Code); n != 5000 {
		t.Errorf("P13.1: Build: %d nodes, want 5000", n)
	}
	c := trioOf(t, "long main(long a){"+strings.Repeat("a=~a;out(a);", 2499)+"a=-a;return a;}")
	if r := c.holds(l(7), nil, 99990); end(r) != "halt 8" || len(c.made.Funcs[0].Code) != 5000 {
		t.Errorf("P8.1: a function of 5000 nodes: %s", end(r))
	}
}

// TestRegisters: a function may have 5000 registers, and no more: of variables, and of what expressions hold.
func TestRegisters(t *testing.T) {
	number := &core.Node{Kind: core.Number, K: 3}
	sum := &core.Node{Kind: core.Binary, Op: api.Add, Parts: []*core.Node{number, number}}
	for _, c := range []struct {
		vars int
		what *core.Node
		want api.Errno
	}{{5000, nil, api.OK}, {5001, nil, api.ELIMIT}, {4999, number, api.OK}, {5000, number, api.ELIMIT}, {4998, sum, api.OK}, {4999, sum, api.ELIMIT}, {0, sum, api.OK}} {
		body := &core.Node{Kind: core.Answer}
		if c.what != nil {
			body.Parts = []*core.Node{c.what}
		}
		p, e := built(&core.Prog{Functions: []core.Function{{Name: "main", Vars: c.vars, Body: body}}})
		if e != c.want || e == api.OK && !rtl.Good(p) || e != api.OK && len(p.Funcs) > 0 {
			t.Errorf("P13.1: a function with %d variables and %v: %d, want %d", c.vars, c.what, e, c.want)
		}
	}
}

// TestGreatFrames: a frame may have MaxSize bytes. Where parameters come on top of them there is no graph that is well formed.
func TestGreatFrames(t *testing.T) {
	for _, c := range []struct {
		text string
		want api.Errno
	}{
		{"int main(int a){char x[65536];x[65535]=a;return x[65535];}", api.OK},
		{"int main(int a){char x[65528];&a;x[65527]=a;a=a+1;return x[65527]*10+a;}", api.OK},
		{"int main(int a){char x[65529];&a;return a;}", api.ELIMIT},
		{"int main(int a){char x[65536];&a;return a;}", api.ELIMIT},
		{"int f(int a,int b,long c,char d,int*e,int g){char x[65536];&a;&b;&c;&d;&e;&g;return a;}int main(int a){return 3;}", api.ELIMIT},
	} {
		_, _, chosen := chosenOf(t, c.text)
		p, e := Build(chosen)
		if e != c.want || e == api.OK && !rtl.Good(p) || e != api.OK && len(p.Funcs) > 0 {
			t.Errorf("P13.1: Build of %s: %d, want %d", c.text, e, c.want)
		}
		if e == api.OK {
			trioOf(t, c.text).holdsThroughout(l(7), nil)
		}
	}
}

// TestTheSameAgain: of one program Build answers the same, in new memory, and changes nothing of it.
func TestTheSameAgain(t *testing.T) {
	for _, tale := range sample.Tales() {
		c := trioOf(t, tale.Text)
		before, told := c.chosen.Text(), rtl.Text(c.made)
		again, _ := Build(c.chosen)
		if rtl.Text(again) != told || rtl.Text(trioOf(t, tale.Text).made) != told {
			t.Errorf("R5: Build of %s: %sand again %s", tale.Text, told, rtl.Text(again))
		}
		spoil(again)
		third, _ := Build(c.chosen)
		if rtl.Text(c.made) != told || rtl.Text(third) != told || c.chosen.Text() != before {
			t.Errorf("R4: Build of %s answers memory that is not new", tale.Text)
		}
		c.isTidy()
	}
}

// spoil writes over all lists of a program, and over what room there is behind them.
func spoil(p rtl.Prog) {
	for _, f := range p.Funcs[:cap(p.Funcs)] {
		spoilFunc(f)
	}
	clear(p.Globals[:cap(p.Globals)])
	clear(p.Funcs[:cap(p.Funcs)])
}

func spoilFunc(f rtl.Func) {
	for _, i := range f.Code[:cap(f.Code)] {
		clear(i.Args[:cap(i.Args)])
	}
	clear(f.Code[:cap(f.Code)])
	clear(f.Params[:cap(f.Params)])
}

// TestAtOnce: graphs may be made of one program by several at once.
func TestAtOnce(t *testing.T) {
	c := trioOf(t, "int g[4];int f(int n){&n;if(!(n>=1))return g[1];g[1]=g[1]+n;return f(n-1);}int main(int n){return f(n);}")
	done := make(chan bool)
	for n := range int64(8) {
		go func(p *sel.Prog) {
			made, _ := Build(p)
			r, e := rtl.Run(made, l(n*10), nil, 100000)
			done <- e == api.OK && r.Exit == n*10*(n*10+1)/2 && rtl.Text(made) == rtl.Text(c.made)
		}(c.chosen)
	}
	for range 8 {
		if !<-done {
			t.Errorf("R5: at once")
		}
	}
}
