package clight

import (
	"strings"
	"testing"
)

// TestPointers has pointers to all that can be pointed to.
func TestPointers(t *testing.T) {
	front := "struct q{char c;int i;};struct s{char c;int a[3];struct s*n;struct q q;long l;};int g;int h[4];struct s t;struct s u[2];"
	in := func(statements string) string { return front + "int main(){" + statements + "}" }
	deeds(t, []tale{
		{in("int*p=&g;*p=3;return g;"), nil, nil, "a1+0 a1+0 halt 3"},
		{in("int*p=h;p[3]=3;p=p+2;*p=2;p=p-1;*p=1;return h[1]+h[2]*10+h[3]*100;"), nil, nil, "a2+12 a2+8 a2+4 a2+4 a2+8 a2+12 halt 321"},
		{in("int*p=&h[3];p[-1]=5;return *(&h[1]+1);"), nil, nil, "a2+8 a2+8 halt 5"},
		{in("*h=5;return h[0];"), nil, nil, "a2+0 a2+0 halt 5"},
		{in("int*p=t.a;p[2]=5;return t.a[2];"), nil, nil, "a3+12 a3+12 halt 5"},
		{in("int*p=&t.a[1];*p=5;return (&t)->a[1];"), nil, nil, "a3+8 a3+8 halt 5"},
		{in("struct s*p=&t;p->c=200;p->l=1<<20;p->q.i=9;p->n=p;out(t.c);out(t.l);return p->n->n->q.i;"), nil, nil, "a3+0 a3+32 a3+28 a3+16 a3+0 a3+32 a3+16 a3+16 a3+28 o-56 o1048576 halt 9"},
		{in("struct q*p=&t.q;p->i=9;return t.q.i;"), nil, nil, "a3+28 a3+28 halt 9"},
		{in("struct s*p=u;p=p+1;p->c=1;(*p).l=2;return u[1].c+u[1].l*10;"), nil, nil, "a4+40 a4+72 a4+40 a4+72 halt 21"},
		{in("u[1].a[2]=7;u[1].n=u;u[1].n->q.c=8;return u[1].a[2]*10+u->q.c;"), nil, nil, "a4+52 a4+56 a4+56 a4+24 a4+52 a4+24 halt 78"},
		{in("int x;int*p=&x;int**q=&p;**q=6;return x;"), nil, nil, "a6+0 a6+0 a5+0 a5+0 halt 6"},
		{in("int*p[2];p[1]=h;p[1][2]=6;return *(p[1]+2);"), nil, nil, "a5+8 a5+8 a2+8 a5+8 a2+8 halt 6"},
		{in("char c[3];char*p=c+2;*p=77;p=p-2;return p[2];"), nil, nil, "a5+2 a5+2 halt 77"},
		{in("long x[2];long*p=1+x;*p=77;return *(x+1);"), nil, nil, "a5+8 a5+8 halt 77"},
		{in("char i=2;long j=1;h[i]=4;h[j]=3;out(*(h+i));out(*(j+h));return h[i-j+1];"), nil, nil, "a2+8 a2+4 a2+8 a2+4 a2+8 o4 o3 halt 4"},
		{in("void*p=(void*)h;int*q=(int*)p;q[1]=4;return ((int*)p)[1];"), nil, nil, "a2+4 a2+4 halt 4"},
		{in("char*p=(char*)h;p[5]=1;return h[1];"), nil, nil, "a2+5 a2+4 halt 256"},
		{in("h[1]=513;char*p=(char*)(h+1);out(p[0]);out(p[1]);return p[2];"), nil, nil, "a2+4 a2+4 a2+5 a2+6 o1 o2 halt 0"},
		{in("long x=-2;int*p=(int*)&x;out(*p);out(p[1]);p[0]=5;return x>>32;"), nil, nil, "a5+0 a5+0 a5+4 a5+0 a5+0 o-2 o-1 halt -1"},
		{in("return *(h+4-4);"), nil, nil, "a2+0 halt 0"},
		{in("return *(h-4+4);"), nil, nil, "a2+0 halt 0"},
		// Some 2^62 elements of 4 bytes are none.
		{in("return h[(long)1<<62];"), nil, nil, "a2+0 halt 0"},
	})
}

// TestPointersCompared has == and != of pointers, of 0 and of one another.
func TestPointersCompared(t *testing.T) {
	front := "int g;int h[4];struct s{int a;int b;};struct s u;"
	for text, want := range map[string]string{
		"p==p": "1", "p!=p": "0", "p==h": "1", "h==p": "1", "p+1==p": "0", "p+1!=p": "1", "p+1==&h[1]": "1", "h+4==&h[3]+1": "1", "&h[0]==h": "1", "p-1==h-1": "1",
		"p==0": "0", "p!=0": "1", "0==p": "0", "0!=p": "1", "z==0": "1", "z!=0": "0", "0==z": "1", "0!=z": "0", "z==z": "1", "z!=z": "0", "p==z": "0", "z==p": "0", "p!=z": "1", "z!=p": "1", "p==(0)": "0",
		"!p": "0", "!z": "1", "!h": "0", "p&&1": "1", "z&&1": "0", "1&&p": "1", "1&&z": "0", "z||0": "0", "p||0": "1", "z||p": "1",
		"&u.b==&u.a+1": "1", "&u.a==(int*)&u": "1", "(void*)p==(void*)h": "1", "(char*)p+4==(char*)(p+1)": "1", "&g==&g": "1", "&*p==p": "1",
		"p==&g": "stuck", "p!=&g": "stuck", "&g==h": "stuck", "&g!=h": "stuck", "h==&u.a": "stuck", "&g+1==h": "stuck", "(void*)p==(void*)&g": "stuck",
		"w==0": "stuck", "w!=0": "stuck", "w==w": "stuck", "w==p": "stuck", "z+1==p": "stuck", "z+1==0": "0", "z+1!=z": "1", "z+1==z+1": "1",
	} {
		if want != "stuck" {
			want = "halt " + want
		}
		outs(t, []tale{{front + "int main(){int*p=h;int*z=0;int*w;return " + text + ";}", nil, nil, want}})
	}
	outs(t, []tale{
		{"int main(){int x;int y;int*p=&x;int*q=&y;return p==q;}", nil, nil, "stuck"},
		{"int main(){int x;int*p=&x;int*q=&x;return p==q;}", nil, nil, "halt 1"},
		{"int f(int*p,int*q){return p==q;}int main(){int x[2];return f(x,&x[0])*10+f(x,x+1);}", nil, nil, "halt 10"},
		{"int f(int*p){return p==0;}int main(){int x;return f(0)*10+f(&x);}", nil, nil, "halt 10"},
		{"int*f(int a){if(a)return 0;return g;}int g[2];int main(){return (f(1)==0)*10+(f(0)==g);}", nil, nil, "halt 11"},
		{"int main(){if(g)return 1;return 2;}int*g;", nil, nil, "halt 2"},
		{"int x;int*g;int main(){g=&x;if(g)return 1;return 2;}", nil, nil, "halt 1"},
		{"struct n{int v;struct n*next;};struct n a[4];int main(){int i=0;while(i<3){a[i].v=i+1;a[i].next=a+(i+1);i=i+1;}struct n*p=a;int s=0;while(p){s=s*10+p->v;p=p->next;}return s;}", nil, nil, "halt 1230"},
	})
}

// TestUnknownValues: one that is Undef may be handed on, but nothing can be reckoned with it.
func TestUnknownValues(t *testing.T) {
	in := func(statement string) string {
		return "int g[2];int f(int a){return 0;}int f8(char a){return 0;}int fl(long a){return 0;}int fp(int*p){return 0;}struct s{int a;int b;int c[2];};int main(){char c;int x;long y;int*p;struct s*q;int z[2];out(5);" + statement + "out(6);return 7;}"
	}
	for _, text := range strings.Fields("x; y; p; c; z[0]; (int)x; (long)x; (char)c; (int)c; (long)y; (char*)p; &*p; &q->a; &(*q).a; x=c; y=x; c=c; p=p; g[1]=x; z[1]=z[0]; fl(x); f(x); f(c); f8(c); fl(y); fp(p); {int*r=p;} {long*r=&y;long*s=r;y=*r;} 0&&x; 1||x; 0&&1/x;") {
		r := run(t, compile(t, in(text)), nil, nil, 1000)
		if tail := ending(r); tail != "halt 7" || len(r.Events) != 2 {
			t.Errorf("P8.1: %s: %s, want halt 7", text, tail)
		}
	}
	for _, text := range strings.Fields("-x; ~x; !x; -y; -c; !p; x+1; 1+x; x-1; x*1; x/1; 1/x; x%1; 1%x; x&1; x|1; x^1; x<<1; 1<<x; x>>1; 1>>x; x==1; 1!=x; x<1; 1<=x; x>1; 1>=x; x&&1; x||1; 1&&x; 0||x; y+1; 1<<y; " +
		"(char)x; (char)y; (int)y; p+1; 1+p; p-1; g+x; x+g; g-x; g[x]; g[x]=1; p[0]; p[0]=1; *p; *p=1; &p[0]; &q->b; &(*q).b; q->c; q->a; q->a=1; p==0; p!=p; q==0; x=y; c=x; c=y; f(y); f8(x); f8(y); " +
		"if(x); while(x); if(p); while(p); out(x); out(c); out(y); out(z[0]); return(x); return(y); return(c); {int*r=&x;out(*r);} {long*r=&y;x=*r;}") {
		if r := run(t, compile(t, in(text)), nil, nil, 1000); ending(r) != "stuck" || len(r.Events) != 1 {
			t.Errorf("P8.1: %s: %s, want stuck", text, ending(r))
		}
	}
	// No leak tells of what is not known.
	deeds(t, []tale{
		{in("x/1;"), nil, nil, "o5 stuck"},
		{in("1%x;"), nil, nil, "o5 stuck"},
		{in("if(x);"), nil, nil, "o5 stuck"},
		{in("1&&x;"), nil, nil, "b1 o5 stuck"},
		{in("*p=1;"), nil, nil, "o5 stuck"},
		{in("q->a;"), nil, nil, "o5 stuck"},
		{in("f(y);"), nil, nil, "o5 stuck"},
		{in("f(x);"), nil, nil, "c0 o5 o6 halt 7"},
		{in("z[x];"), nil, nil, "o5 stuck"},
	})
}

// TestPointersAsNumbers: what is stored as a pointer may be loaded as a long, and the other way.
func TestPointersAsNumbers(t *testing.T) {
	in := func(statement string) string {
		return "int g[3];int k;int*h;int*j;long n;int main(){h=g;j=&k;n=5;long x=*(long*)&h;long y=*(long*)&j;int*p=*(int**)&n;out(5);" + statement + "out(6);return 7;}"
	}
	for _, text := range strings.Fields("x; x+1; 1+x; x-1; !x; x==x; x!=x; x==0; 0!=x; x&&1; 0||x; (long)x; x=x+4; if(x); p; p+1; p-1; p==0; p==p; !p; p&&1; {long*r=&x;int**s=(int**)r;**s=4;} {int*r=*(int**)&x;*r=3;}") {
		if r := run(t, compile(t, in(text)), nil, nil, 1000); ending(r) != "halt 7" || len(r.Events) != 2 {
			t.Errorf("P8.1: %s: %s, want halt 7", text, ending(r))
		}
	}
	for _, text := range strings.Fields("-x; ~x; 1-x; x*1; 1*x; x/1; 1/x; x%1; x&1; x|0; x^x; x<<1; 1<<x; (long)1<<x; x>>1; x==1; 1!=x; x==y; x!=y; x<1; x<=x; x>y; 1>=x; x+y; x-x; (int)x; (char)x; {int(z)=x;} {char(z)=x;} out(x); return(x); g[x]; g+x; x+h; h-x; *p; *p=1; p[0]; p==h; p!=h; h==p; {int(z)=*(int*)&h;z+1;}") {
		text = strings.NewReplacer("int(z)", "int z", "char(z)", "char z").Replace(text)
		if r := run(t, compile(t, in(text)), nil, nil, 1000); ending(r) != "stuck" || len(r.Events) != 1 {
			t.Errorf("P8.1: %s: %s, want stuck", text, ending(r))
		}
	}
	front := "a3+0 a4+0 a5+0 a3+0 a4+0 a5+0"
	deeds(t, []tale{
		{in("out(x-4==*(long*)&h-4);"), nil, nil, front + " a3+0 o5 o1 o6 halt 7"},
		{in("x/1;"), nil, nil, front + " o5 stuck"},
		{in("1%x;"), nil, nil, front + " o5 stuck"},
		{in("*p;"), nil, nil, front + " o5 stuck"},
	})
	outs(t, []tale{
		{"int g;int*h;long main(){h=&g;return *(long*)&h;}", nil, nil, "stuck"},
		{"int g;int*h;long f(){return *(long*)&h;}int main(){h=&g;f();return 3;}", nil, nil, "halt 3"},
		{"int g;int*h;int f(){return *(long*)&h;}int main(){h=&g;f();return 3;}", nil, nil, "stuck"},
		{"int g;int*h;int f(long a){&a;return *(int**)&a==h;}int main(){h=&g;return f(*(long*)&h);}", nil, nil, "halt 1"},
	})
}

// TestWrongAccesses has loads and stores that chapter 2 refuses: their address leaks ahead of that.
func TestWrongAccesses(t *testing.T) {
	front := "int g[3];char c[9];long l[2];"
	for text, want := range map[string]string{
		"g[2]": "a1+8", "g[3]": "a1+12 stuck", "g[-1]": "a1+-4 stuck", "g[1000000]": "a1+4000000 stuck", "g[2147483647]": "a1+8589934588 stuck", "g[-2147483647-1]": "a1+-8589934592 stuck", "*(g+3)": "a1+12 stuck", "*(g-1)": "a1+-4 stuck",
		"c[8]": "a2+8", "c[9]": "a2+9 stuck", "c[-1]": "a2+-1 stuck", "l[1]": "a3+8", "l[2]": "a3+16 stuck",
		"*(int*)c": "a2+0", "*(int*)(c+4)": "a2+4", "*(int*)(c+1)": "a2+1 stuck", "*(int*)(c+2)": "a2+2 stuck", "*(int*)(c+3)": "a2+3 stuck", "*(int*)(c+8)": "a2+8 stuck",
		"*(long*)c": "a2+0", "*(long*)(c+1)": "a2+1 stuck", "*(long*)(c+4)": "a2+4 stuck", "*(long*)(c+8)": "a2+8 stuck", "*(long*)g": "a1+0", "*(long*)(g+1)": "a1+4 stuck", "*(long*)(g+2)": "a1+8 stuck",
		"*(char*)((char*)l+15)": "a3+15", "*((char*)l+16)": "a3+16 stuck",
		"*z": "stuck", "z[0]": "stuck", "z[5]": "stuck", "z[-5]": "stuck", "*(z+1)": "stuck", "((struct q*)z)->b": "stuck", "((struct q*)z)->a": "stuck",
		"((struct q*)g)->b": "a1+4", "((struct q*)(g+2))->b": "a1+12 stuck", "((struct q*)(g+2))->a": "a1+8",
	} {
		if !strings.HasSuffix(want, "stuck") {
			want += " halt 7"
		}
		deeds(t, []tale{
			{"struct q{int a;int b;};" + front + "int main(){int*z=0;" + text + ";return 7;}", nil, nil, want},
			{"struct q{int a;int b;};" + front + "int main(){int*z=0;" + text + "=1;return 7;}", nil, nil, want},
		})
	}
}

// TestWhereItIsStuck tells how far a run comes that is Stuck.
func TestWhereItIsStuck(t *testing.T) {
	stories(t, []tale{
		{"int main(){int x;return -x;}", nil, nil, "..... stuck"},
		{"int main(){int x;return x+in();}", nil, l(5), "...... i5 stuck"},
		{"int main(){int x;return x&&in();}", nil, l(5), "..... stuck"},
		{"int main(){int x;return 1&&x;}", nil, nil, "..... b1 . stuck"},
		{"int main(){int x;return 0||x;}", nil, nil, "..... b0 . stuck"},
		{"int main(){int x;if(x)return 1;return 2;}", nil, nil, ".... stuck"},
		{"int main(){int x;while(x);return 2;}", nil, nil, "..... stuck"},
		{"int main(){int x;out(x);return 2;}", nil, nil, ".... stuck"},
		{"int main(){int x;return x;}", nil, nil, ".... stuck"},
		{"int main(){out(1);}", nil, nil, "... o1 stuck"},
		{"int f(){out(1);}int main(){return f();}", nil, nil, "... c0 ... o1 stuck"},
		{"int f(int a){if(a)return 1;}int main(){return f(1)+f(0);}", nil, nil, "..... c0 ... b1 .... c0 ... b0 stuck"},
		{"int f(){while(1)break;}int main(){f();return 1;}", nil, nil, "... c0 .... b1 . stuck"},
		{"int main(){return in()/in();}", nil, l(5, 0), ".... i5 . d5/0 i0 stuck"},
		{"int main(){return in()%in();}", nil, l(-1<<63, -1), ".... i-9223372036854775808 . d-9223372036854775808/-1 i-1 stuck"},
		{"int main(){return in()<<in();}", nil, l(5, 64), ".... i5 . i64 stuck"},
		{"int main(){return (int)in()>>in();}", nil, l(5, 32), "..... i5 . i32 stuck"},
		// What is given to a place is reckoned ahead of the access.
		{"int main(){int*p=0;*p=in();return 1;}", nil, l(5), "....... i5 stuck"},
		{"int g[2];int main(){g[2]=in();return 1;}", nil, l(5), "...... a1+8 i5 stuck"},
		{"int g[2];int main(){int x;g[x]=in();return 1;}", nil, l(5), "...... stuck"},
		// An argument is converted ahead of the next one, and all of them ahead of the call.
		{"int f(int a,long b){return a;}int main(){long x;return f(x,in());}", nil, l(5), "..... stuck"},
		{"int f(long a,int b){return a;}int main(){long x;return f(in(),x);}", nil, l(5), "..... i5 . stuck"},
		{"int main(){long x;char c=x;return 1;}", nil, nil, ".... stuck"},
		{"int main(){long x;return x;}", nil, nil, ".... stuck"},
		{"long main(){long x;return x;}", nil, nil, ".... stuck"},
	})
}

// TestWhereCallsAreStuck: one too many is seen as a call, and uses no fuel any more.
func TestWhereCallsAreStuck(t *testing.T) {
	stories(t, []tale{
		{"int f(){return f();}int main(){return f();}", nil, nil, strings.Repeat("... c0 ", 1000) + "stuck"},
		{"void f(){char a[65536];f();}int main(){f();}", nil, nil, "... c0 " + strings.Repeat(".... c0 ", 16) + "stuck"},
		{"void f(int a,int b,int c){}int main(){int x;f(1,2,-x);}", nil, nil, "........ stuck"},
	})
}

// TestShifts: of type int a count goes from 0 to 31, of type long to 63.
func TestShifts(t *testing.T) {
	for _, op := range []string{"<<", ">>"} {
		for _, c := range []struct {
			left, right string
			most        int64
		}{{"char", "char", 31}, {"int", "int", 31}, {"int", "long", 31}, {"long", "int", 63}, {"long", "char", 63}} {
			p := compile(t, "int main("+c.left+" a,"+c.right+" b){a"+op+"b;return 7;}")
			for count, isRight := range map[int64]bool{-1: false, 0: true, 1: true, 31: true, 32: c.most > 31, c.most: true, c.most + 1: false, -128: false} {
				if r := run(t, p, l(1, count), nil, 100); (ending(r) == "halt 7") != isRight || !isRight && ending(r) != "stuck" {
					t.Errorf("P8.1: %s %s %s %d: %s", c.left, op, c.right, count, ending(r))
				}
			}
		}
	}
}
