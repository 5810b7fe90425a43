package clight

import (
	"strings"
	"testing"

	"plumbob/api"
)

// TestHeldApart tells by the leaks which parameters and variables have a block.
func TestHeldApart(t *testing.T) {
	deeds(t, []tale{
		{"int main(char a,int b,long c){a=1;b=2;c=3;return a+b+c;}", l(0, 0, 0), nil, "halt 6"},
		{"int main(){char a=1;int b=2;long c=3;int*p=0;p=p;return a+b+c;}", nil, nil, "halt 6"},
		{"int main(char a){&a;a=1;return a;}", l(9), nil, "a1+0 a1+0 halt 1"},
		{"int main(int a){&a;a=1;return a;}", l(9), nil, "a1+0 a1+0 halt 1"},
		{"int main(long a){&a;a=1;return a;}", l(9), nil, "a1+0 a1+0 halt 1"},
		{"int main(int a){&a;return a;}", l(9), nil, "a1+0 halt 9"},
		{"int main(int a){&(((a)));return a;}", l(9), nil, "a1+0 halt 9"},
		{"int main(){int x=1;if(0)&x;return x;}", nil, nil, "a1+0 b0 a1+0 halt 1"},
		{"int main(){int x=1;int y=x;return y;int*p=&x;}", nil, nil, "a1+0 a1+0 halt 1"},
		{"int f(int*p){return *p;}int main(){int x=1;int y=2;return f(&x)+y;}", nil, nil, "a1+0 c0 a1+0 halt 3"},
		{"int main(){int*p=0;int**q=&p;return *q==0;}", nil, nil, "a1+0 a1+0 halt 1"},
		// The address of what it points to, of an element, of a field is not its own.
		{"int g;int main(){int*p=&g;&*p;&p[0];p=p;return 1;}", nil, nil, "halt 1"},
		{records + "struct s g;int main(){struct s*p=&g;&p->b;&(*p).a;&*p;p=p;return 1;}", nil, nil, "halt 1"},
		{"int g;int f(int*p){&*p;p=p+1;return 1;}int main(){return f(&g);}", nil, nil, "c0 halt 1"},
		// Arrays and structs have one, whether or not an address is taken.
		{"int main(){int a[1];a[0]=4;return a[0];}", nil, nil, "a1+0 a1+0 halt 4"},
		{records + "int main(){struct s x;x.b=4;return x.b;}", nil, nil, "a1+4 a1+4 halt 4"},
		// A name in another function is another one's.
		{"int f(int x){return x;}int h(int x){return *&x;}int main(){return f(2)*10+h(3);}", nil, nil, "c0 c1 a1+0 halt 23"},
	})
}

// TestBlockNumbers: globals first, then what a call needs: parameters, then variables in the order of the text.
func TestBlockNumbers(t *testing.T) {
	f := "int f(int a,int b,int c){int x[2];int y;&y;{struct s z;z.b=1;int w=5;&w;int v;}x[1]=2;y=3;&a;c=4;&c;b=6;a=7;return 0;}"
	deeds(t, []tale{
		{records + f + "int main(){return f(1,2,3);}", nil, nil, "c0 a5+4 a6+0 a3+4 a4+0 a2+0 a1+0 halt 0"},
		{records + f + "int g;int h[2];int main(){int u;&u;g=1;h[1]=2;f(1,2,3);u=4;return f(1,2,3);}", nil, nil, "a1+0 a2+4 c0 a8+4 a9+0 a6+4 a7+0 a5+0 a4+0 a3+0 c0 a14+4 a15+0 a12+4 a13+0 a11+0 a10+0 halt 0"},
		{"int b;int main(){a=1;b=2;c=3;return 0;}int a;int f(){return 0;}int c;", nil, nil, "a2+0 a1+0 a3+0 halt 0"},
		{"void f(){}void h(){f();}int main(){h();f();return 0;}void k(){}", nil, nil, "c1 c0 c0 halt 0"},
		{"int main(){k();return 0;}void f(){}void k(){f();k2();}void k2(){}", nil, nil, "c2 c1 c3 halt 0"},
	})
}

func TestGlobals(t *testing.T) {
	front := records + "char a;int b;long c;int*d;struct s*e;struct s f;int g[3];struct s h[2];char*k[2];"
	deeds(t, []tale{
		{front + "int main(){out(a);out(b);out(c);out(d==0);out(e==0);out(f.a);out(f.b);out(g[2]);out(h[1].b);out(k[1]==0);return !d;}", nil, nil,
			"a1+0 a2+0 a3+0 a4+0 a5+0 a6+0 a6+4 a7+8 a8+12 a9+8 a4+0 o0 o0 o0 o1 o1 o0 o0 o0 o0 o1 halt 1"},
		{front + "int main(){a=200;b=in();c=in();d=&b;e=h;k[1]=&a;out(a);out(b);out(c);out(*d);e[1].b=9;out(h[1].b);return *k[1];}", nil, l(1<<32+7, 1<<32+7),
			"a1+0 a2+0 a3+0 a4+0 a5+0 a9+8 a1+0 a2+0 a3+0 a4+0 a2+0 a5+0 a8+12 a8+12 a9+8 a1+0 i4294967303 i4294967303 o-56 o7 o4294967303 o7 o9 halt -56"},
	})
	// They are as they were left, whichever function did, and new in each run.
	p := compile(t, "int g;void f(){g=g+1;}int main(){f();f();return g;}")
	for range 2 {
		if r := run(t, p, nil, nil, 100); r.Exit != 2 {
			t.Errorf("P8.1: a global: %s", ending(r))
		}
	}
}

// TestNamesInTheirDeclaration: a variable can be named from its own name on.
func TestNamesInTheirDeclaration(t *testing.T) {
	deeds(t, []tale{
		{"int main(){int x=x;return 1;}", nil, nil, "halt 1"},
		{"int main(){int x=x;return x;}", nil, nil, "stuck"},
		{"int main(){int x=x+1;return 1;}", nil, nil, "stuck"},
		{"int main(){int*p=(int*)&p;return p!=0;}", nil, nil, "a1+0 a1+0 halt 1"},
		{"int main(){void*p=(void*)&p;return p==(void*)&p;}", nil, nil, "a1+0 a1+0 halt 1"},
		{"int main(){int x=*&x;return 1;}", nil, nil, "a1+0 a1+0 halt 1"},
		{"int x;int main(){int x=x;return x;}", nil, nil, "stuck"},
		{"int main(){int i=0;while(i<3){int x=i&&x*10+i;if(i)out(x);i=i+1;}return 0;}", nil, nil, "b1 b0 b0 b1 b1 b1 b1 b1 b1 b1 b1 b0 o1 o1 halt 0"},
	})
	outs(t, []tale{
		{"int main(){int i=0;while(i<3){if(i==0){int x=5;out(x);}i=i+1;}return i;}", nil, nil, "o5 halt 3"},
		{"int main(){int i=0;while(i<4){int x=1;if(i)x=x+i;out(x);i=i+1;}return i;}", nil, nil, "o1 o2 o3 o4 halt 4"},
	})
}

// TestHiding: which variable a name stands for hangs on its place, and an address that is taken is that one's alone.
func TestHiding(t *testing.T) {
	deeds(t, []tale{
		{"int x;int main(){x=5;int x=7;return x;}", nil, nil, "a1+0 halt 7"},
		{"int x;int main(){x=5;{int x=7;out(x);x=8;}return x;}", nil, nil, "a1+0 a1+0 o7 halt 5"},
		{"int x;int main(){int*p=&x;*p=4;int x=7;return x*10+*p;}", nil, nil, "a1+0 a1+0 halt 74"},
		{"int x;int main(){{int x=7;out(x);}int*p=&x;*p=4;return x;}", nil, nil, "a1+0 a1+0 o7 halt 4"},
		{"int x;int main(){x=4;{int x=7;int*p=&x;out(*p);}return x;}", nil, nil, "a1+0 a2+0 a2+0 a1+0 o7 halt 4"},
		{"int x;int f(int x){x=x+1;return x;}int main(){x=4;return f(8)*10+x;}", nil, nil, "a1+0 c0 a1+0 halt 94"},
		{"int x;int main(int x){return x;}", l(3), nil, "halt 3"},
		{"int f;int f(int a){return f+a;}int main(){f=2;return f(3);}", nil, nil, "a1+0 c0 a1+0 halt 5"},
		{"int x[2];int main(){x[1]=3;long x=9;return x;}", nil, nil, "a1+4 halt 9"},
		{"long x;int main(){out(sizeof(int));x=1<<30;out(x*4);int x=1<<30;return x*4;}", nil, nil, "a1+0 a1+0 o4 o4294967296 halt 0"},
	})
}

// TestDeclarationsAgain: one without a value leaves what is there, as long as its call goes on.
func TestDeclarationsAgain(t *testing.T) {
	deeds(t, []tale{
		{"int main(int n){while(n){int x;if(n==1)return x;x=n*7;n=n-1;}return 0;}", l(2), nil, "b1 b0 b1 b1 halt 14"},
		{"int main(int n){while(n){int x;if(n==1)return x;x=n*7;&x;n=n-1;}return 0;}", l(2), nil, "b1 b0 a1+0 b1 b1 a1+0 halt 14"},
		{"int main(int n){while(n){int x[2];if(n==1)return x[1];x[1]=n*7;n=n-1;}return 0;}", l(2), nil, "b1 b0 a1+4 b1 b1 a1+4 halt 14"},
		{"int main(int n){while(n){int x;if(n==1)return x;n=n-1;}return 0;}", l(2), nil, "b1 b0 b1 b1 stuck"},
		{"int main(int n){while(n){int x=n;n=n-1;if(n==0)return x;x=9;}return 0;}", l(2), nil, "b1 b0 b1 b1 halt 1"},
	})
}

// TestCallsApart: each call has variables of its own, unknown at first.
func TestCallsApart(t *testing.T) {
	outs(t, []tale{
		{"int f(int n){int x=n;if(n)f(n-1);out(x);out(n);return 0;}int main(){return f(2);}", nil, nil, "o0 o0 o1 o1 o2 o2 halt 0"},
		{"int f(int n){int x=n;int*p=&x;if(n)f(n-1);*p=*p+10;out(x);return 0;}int main(){return f(2);}", nil, nil, "o10 o11 o12 halt 0"},
		{"int f(int n,int*p){&n;n=n+1;*p=n;if(n<4)f(n,&n);return n;}int main(){int x;out(f(1,&x));return x;}", nil, nil, "o3 halt 2"},
		{"int f(int n){int x;if(n)x=5;return x;}int main(){return f(1);}", nil, nil, "halt 5"},
		{"int f(int n){int x;if(n)x=5;return x;}int main(){f(1);return f(0);}", nil, nil, "stuck"},
		{"int f(int n){int x;&x;if(n)x=5;return x;}int main(){f(1);return f(0);}", nil, nil, "stuck"},
		{"int f(int n){int x[2];if(n)x[1]=5;return x[1];}int main(){f(1);return f(0);}", nil, nil, "stuck"},
		{"int f(int a){if(a<2)return 1;return a*f(a-1);}int main(){return f(10);}", nil, nil, "halt 3628800"},
		{"int even(int n){if(n==0)return 1;return odd(n-1);}int odd(int n){if(n==0)return 0;return even(n-1);}int main(){return even(11)*10+odd(11);}", nil, nil, "halt 1"},
		{"int f(int n){if(n<2)return n;return f(n-1)+f(n-2);}int main(){return f(15);}", nil, nil, "halt 610"},
		{"int f(int a,char b,long c,int*d,int e,int g){*d=a+b+c;return e-g;}int main(){int x;int y=f(1,259,1<<20,&x,50,8);out(x);return y;}", nil, nil, "o1048580 halt 42"},
	})
}

// TestFreed: what a call had is freed when it ends, and not ahead of that.
func TestFreed(t *testing.T) {
	deeds(t, []tale{
		{"int*f(){int x;x=1;return &x;}int main(){return *f();}", nil, nil, "c0 a1+0 a1+0 stuck"},
		{"int*f(){int x;return &x;}int main(){*f()=1;return 0;}", nil, nil, "c0 a1+0 stuck"},
		{"int*f(int a){return &a;}int main(){return *f(1);}", nil, nil, "c0 a1+0 stuck"},
		{"int*f(){int x[2];return x;}int main(){return f()[1];}", nil, nil, "c0 a1+4 stuck"},
		{"int*f(){int x;return &x;}int main(){int*p=f();out(p==p);out(p!=0);return p+1==p;}", nil, nil, "c0 o1 o1 halt 0"},
		{"int*f(){int x;return &x;}int main(){return f()==f();}", nil, nil, "c0 c0 stuck"},
		{"int*g;void f(){int x=3;g=&x;out(*g);}int main(){f();return *g;}", nil, nil, "c0 a2+0 a1+0 a1+0 a2+0 a1+0 a2+0 o3 stuck"},
		{"int h(int*p){return *p;}int f(){int x=3;return h(&x);}int main(){return f();}", nil, nil, "c1 a1+0 c0 a1+0 halt 3"},
		{"int main(){int*p;{int x=3;p=&x;}return *p;}", nil, nil, "a1+0 a1+0 halt 3"},
	})
}

// TestCallLimit: main's call is the first of 1000 within one another.
func TestCallLimit(t *testing.T) {
	p := compile(t, "int f(int a){if(a>0)return f(a-1);return 7;}int main(int n,int m){while(m){out(f(n));m=m-1;}return 8;}")
	for n, want := range map[int64]string{0: "halt 8", 997: "halt 8", 998: "halt 8", 999: "stuck", 1000: "stuck", 5000: "stuck"} {
		r := run(t, p, l(n, 1), nil, 100000)
		calls := 0
		for _, k := range r.Leaks {
			if k.Kind == api.Call {
				calls++
			}
		}
		// The call that can't be is seen, since its leak stands ahead of it.
		if ending(r) != want || calls != int(min(n+1, 1000)) {
			t.Errorf("P8.1: %d calls within one another: %s, %d leaks", n+2, ending(r), calls)
		}
	}
	if r := run(t, p, l(998, 5), nil, 1000000); ending(r) != "halt 8" || len(r.Events) != 5 {
		t.Errorf("P8.1: 1000 calls within one another, five times: %s", ending(r))
	}
	if r := run(t, p, l(0, 5000), nil, 1000000); ending(r) != "halt 8" || len(r.Events) != 5000 {
		t.Errorf("P8.1: 5000 calls behind one another: %s", ending(r))
	}
	outs(t, []tale{
		{"int f(int a){return f(a);}int main(){return f(1);}", nil, nil, "stuck"},
		{"void f(){h();}void h(){f();}int main(){f();return 1;}", nil, nil, "stuck"},
	})
}

// TestDeepCalls has as many calls within one another as may be, each in as deep a part as may be.
func TestDeepCalls(t *testing.T) {
	for _, c := range [][2]string{{"-", ""}, {"(long)", ""}, {"1+(", ")"}, {"h(", ")"}, {"1&&(", ")"}} {
		deep := strings.Repeat(c[0], 90) + "f(n-1)" + strings.Repeat(c[1], 90)
		p := compile(t, "long h(long n){return n;}long f(int n){if(n)return "+deep+";return 0;}int main(int n){f(n);return 3;}")
		for n, want := range map[int64]string{998: "halt 3", 999: "stuck"} {
			r := run(t, p, l(n), nil, 10000000)
			if ending(r) != want {
				t.Errorf("P8.1: %s with %d: %s", c[0], n, ending(r))
			}
		}
	}
	for _, c := range [][2]string{{"{", "}"}, {"if(n)", ""}, {"while(n)", ""}} {
		deep := strings.Repeat(c[0], 150) + "{f(n-1);return;}" + strings.Repeat(c[1], 150)
		p := compile(t, "void f(int n){if(n){"+deep+"}}int main(int n){f(n);return 3;}")
		for n, want := range map[int64]string{998: "halt 3", 999: "stuck"} {
			if r := run(t, p, l(n), nil, 10000000); ending(r) != want {
				t.Errorf("P8.1: %s with %d: %s", c[0], n, ending(r))
			}
		}
	}
}

// TestRoom: 2^20 bytes of calls' blocks at once may be, and no more; globals are none of them.
func TestRoom(t *testing.T) {
	for _, c := range []struct {
		text string
		most int64
	}{
		{"void f(int n){char a[65536];if(n)f(n-1);}int main(int n){f(n);return 1;}", 15},
		{"void f(int n){char a[60000];if(n)f(n-1);}int main(int n){f(n);return 1;}", 16},
		{"char g[65536];char h[65536];void f(int n){char a[65536];if(n)f(n-1);}int main(int n){f(n);return 1;}", 15},
		{"void f(int n){char a[65536];if(n)f(n-1);}int main(int n){char c;&c;f(n);return 1;}", 14},
		{"void f(int n){char a[65536];if(n)f(n-1);}int main(int n){&n;f(n);return 1;}", 14},
		{"void f(char n){char a[65535];&n;if(n)f(n-1);}int main(int n){f(n);return 1;}", 15},
		{"void f(int n){char a[65532];&n;if(n)f(n-1);}int main(int n){f(n);return 1;}", 15},
		{"void f(int n){char a[65533];&n;if(n)f(n-1);}int main(int n){f(n);return 1;}", 14},
		{"void f(int n){struct s a[2];long b[8184];if(n)f(n-1);}int main(int n){f(n);return 1;}struct s{char c;long l;int*p;int q[2];};", 15},
		{"void f(int n){char a[65536];if(n){f(0);f(0);f(n-1);f(0);}}int main(int n){f(n);f(n);return 1;}", 15},
		{"void h(){char a[65536];}void f(int n){char a[65536];h();if(n)f(n-1);}int main(int n){f(n);return 1;}", 14},
		{"void f(int n){long a[129];char b[18];if(n)f(n-1);}int main(int n){f(n);return 1;}", 997},
	} {
		p := compile(t, c.text)
		for n, want := range map[int64]string{0: "halt 1", c.most: "halt 1", c.most + 1: "stuck", c.most + 2: "stuck"} {
			if r := run(t, p, l(n), nil, 100000); ending(r) != want {
				t.Errorf("P8.1: %s with %d: %s, want %s", c.text, n, ending(r), want)
			}
		}
	}
}

// TestBlockLimit: a memory makes 100000 blocks, the globals' too.
func TestBlockLimit(t *testing.T) {
	for _, c := range []struct {
		text string
		most int64
	}{
		{"void f(int a){&a;}int main(int n){while(n){f(n);n=n-1;}return 1;}", 100000},
		{"int g;int h;void f(){char c[9];}int main(int n){while(n){f();n=n-1;}return 1;}", 99998},
	} {
		p := compile(t, c.text)
		for n, want := range map[int64]string{c.most: "halt 1", c.most + 1: "stuck"} {
			if r := run(t, p, l(n), nil, 10000000); ending(r) != want {
				t.Errorf("P8.1: %s with %d: %s, want %s", c.text, n, ending(r), want)
			}
		}
	}
	// The blocks of one call count one by one: of the last call the first one can still be made.
	p := compile(t, "void f(int a){&a;char c[9];}int main(int n){char d;&d;while(n){f(n);n=n-1;}return 1;}")
	for n, want := range map[int64]string{49999: "halt 1", 50000: "stuck"} {
		if r := run(t, p, l(n), nil, 10000000); ending(r) != want {
			t.Errorf("P8.1: %d calls with two blocks: %s, want %s", n, ending(r), want)
		}
	}
}
