package cmin

import (
	"fmt"
	"strings"
	"testing"

	"plumbob/api"
	"plumbob/trace"
)

var integers = []string{"char", "int", "long"}

// TestConversions has all ways by which a value is given another type, of arguments, of results and of what is assigned.
func TestConversions(t *testing.T) {
	for _, a := range integers {
		for _, b := range integers {
			for _, pattern := range []string{
				"long main(long x){A a=x;B b=a;return b;}",
				"long main(A a){B b;b=a;return b;}",
				"long main(A a){return (B)a;}",
				"B f(A a){return a;}long main(long x){return f(x);}",
				"long f(B b){return b;}long main(A a){return f(a);}",
				"B g;long main(A a){g=a;return g;}",
				"long main(A a){B b=a;B*p=&b;return *p;}",
				"long main(A a){&a;B b[2];b[1]=a;return b[1];}",
				"struct s{char c;B b;};long main(A a){struct s x;x.b=a;return x.b;}",
				"long f(B b){&b;return b;}long main(A a){return f(a);}",
			} {
				c := pairOf(t, strings.ReplaceAll(strings.ReplaceAll(pattern, "A ", a+" "), "B", b))
				for _, n := range edges {
					if r := c.holds(l(n), nil, 100); r.Kind != api.Halt {
						t.Errorf("P8.1: %s with %d: %s", c.text, n, end(r))
					}
				}
			}
		}
	}
	for _, text := range []string{"int main(char a){return a;}", "int main(int a){return a;}", "int main(long a){return a;}", "long main(long a){return a;}", "int main(char a){&a;return a;}", "int main(int a){&a;return a;}", "long main(long a){&a;return a;}", "long main(char a){out(a);a=in();out(a);return a;}"} {
		c := pairOf(t, text)
		for _, n := range edges {
			c.ends(l(n), l(-n), end(c.told(l(n), l(-n), 100)))
		}
	}
	c := pairOf(t, "int main(char a,int b,long c,char d,int e,long f){&d;&e;&f;out(a);out(b);out(c);out(d);out(e);out(f);return 0;}")
	if s := trace.Text(c.run(l(200, 1<<31, 1<<40, 300, 1<<32+5, -1<<63), nil, 1000)); s != "out -56\nout -2147483648\nout 1099511627776\nout 44\nout 5\nout -9223372036854775808\nhalt 0\n" {
		t.Errorf("P10.2: arguments: %q", s)
	}
}

// TestOperations has each operation on integers, of each two types, at their edges: divisions and shifts that have a meaning, too.
func TestOperations(t *testing.T) {
	halts := 0
	for _, op := range []string{"+", "-", "*", "/", "%", "&", "|", "^", "<<", ">>", "==", "!=", "<", "<=", ">", ">=", "&&", "||"} {
		for _, left := range integers {
			for _, right := range integers {
				c := pairOf(t, fmt.Sprintf("long main(%s a,%s b){return a%sb;}", left, right, op))
				for _, x := range edges {
					for _, y := range edges {
						if c.holds(l(x, y), nil, 5).Kind == api.Halt {
							halts++
						}
					}
				}
			}
		}
	}
	if halts < 10000 {
		t.Errorf("P10.2: but %d runs that halt", halts)
	}
	for _, typ := range integers {
		for _, e := range []string{"-a", "~a", "!a", "!!a", "-~a", "(char)-a", "(int)-a", "(long)-a", "-(char)a", "-(int)a", "~(long)a"} {
			c := pairOf(t, fmt.Sprintf("long main(%s a){return %s;}", typ, e))
			for _, x := range edges {
				if r := c.holdsThroughout(l(x), nil); r.Kind != api.Halt {
					t.Errorf("P8.1: %s with %d: %s", c.text, x, end(r))
				}
			}
		}
	}
}

// tell runs tales, and asks of each that the source comes to its end and what was made of it does the same, at each fuel on the way.
func tell(t *testing.T, tales []tale) {
	t.Helper()
	for _, c := range tales {
		pairOf(t, c.text).ends(c.args, c.world, c.want)
	}
}

func TestStatements(t *testing.T) {
	tell(t, []tale{
		{"int main(){;{;{}};return 3;}", nil, nil, "halt 3"},
		{"int main(int a){if(a)if(a-1)return 1;else return 2;return 3;}", l(0), nil, "halt 3"},
		{"int main(int a){if(a)if(a-1)return 1;else return 2;return 3;}", l(1), nil, "halt 2"},
		{"int main(int a){if(a)if(a-1)return 1;else return 2;return 3;}", l(2), nil, "halt 1"},
		{"int main(int a){if(a){out(1);}else{out(2);}if(!a)out(3);return 3;}", l(0), nil, "halt 3"},
		{"int main(int n){int s=0;while(n){n=n-1;if(n==3)continue;if(n==1)break;s=s*10+n;out(s);}return s;}", l(6), nil, "halt 542"},
		{"int main(){int i=0;int s=0;while(i<4){int k=0;while(1){k=k+1;if(k>i)break;if(k==2)continue;s=s+k;while(0)out(9);}i=i+1;}out(s);return s;}", nil, nil, "halt 6"},
		{"int main(){int i=0;while(1){while(1){i=i+1;if(i>3)return i;break;}continue;}}", nil, nil, "halt 4"},
		{"int main(){while(in())out(in());return in();}", nil, l(1, 2, 3, 4, 0, 9), "halt 9"},
		{"void f(int a){if(a)return;out(a);}int main(){f(1);f(0);out(2);f(3);return 1;}", nil, nil, "halt 1"},
		{"int main(){return 5;out(1);}", nil, nil, "halt 5"},
		{"int g;int main(){g;3;g+1;in();&g;g=1;g=g+g;return g;}", nil, l(4), "halt 2"},
		{"int main(int n){while(n){int x;if(n==1)return x;x=n*7;n=n-1;}return 0;}", l(2), nil, "halt 14"},
		{"int main(int n){while(n){int x;&x;if(n==1)return x;x=n*7;n=n-1;}return 0;}", l(2), nil, "halt 14"},
		{"int main(int n){while(n){int x[2];if(n==1)return x[1];x[1]=n*7;n=n-1;}return 0;}", l(2), nil, "halt 14"},
		{"int main(int n){while(n){int x=n;n=n-1;if(n==0)return x;x=9;}return 0;}", l(2), nil, "halt 1"},
		{"int main(){int i=0;while(i<3){int x=i&&x*10+i;if(i)out(x);i=i+1;}return 0;}", nil, nil, "halt 0"},
		{"int x;int main(){x=5;{int x=7;out(x);x=8;}{int x2=x;int*p=&x;*p=x2+1;}return x;}", nil, nil, "halt 6"},
		{"int x;int f(int x){x=x+1;return x;}int main(){x=4;return f(8)*10+x;}", nil, nil, "halt 94"},
		{"int f;int f(int f){return f+1;}int main(){f=2;return f(3)*10+f;}", nil, nil, "halt 42"},
	})
	// Without an end.
	for _, text := range []string{"int main(){while(1)out(in());}", "int main(){long x=1;while(1){x=x*3+1;out(x);}return 0;}", "int main(){while(1){while(1){if(in())break;continue;}out(3);}}"} {
		c := pairOf(t, text)
		for _, fuel := range []int{0, 1, 9, 10, 500, 2000, 99990} {
			if r := c.holds(nil, l(1, 0, 2, 3), fuel); r.Kind != api.Fuel {
				t.Errorf("P8.1: %s: %s", text, end(r))
			}
		}
	}
}

func TestLogic(t *testing.T) {
	c := pairOf(t, "int f(int a){out(a);return a;}int main(int a,int b,int c){out(f(a)&&f(b)||f(c));out(f(a)||f(b)&&f(c));out(!(f(a)&&!f(b)));if(f(a)&&(f(b)||f(c)))out(7);while(f(a)&&f(b)){a=a-1;b=b-1;}return (a||b)+(b&&c)*2;}")
	for n := range int64(27) {
		c.ends(l(n%3, n/3%3, n/9), nil, end(c.told(l(n%3, n/3%3, n/9), nil, 10000)))
	}
	for _, typ := range integers {
		for _, pattern := range []string{"if(a)return 1;return 0;", "while(a)return 1;return 0;", "return a&&1;", "return 1&&a;", "return a||0;", "return 0||a;", "return !!a;"} {
			c := pairOf(t, "int main("+typ+" a){"+pattern+"}")
			for _, n := range edges {
				c.ends(l(n), nil, end(c.told(l(n), nil, 100)))
			}
		}
	}
}

const front = "struct q{char c;int i;};struct s{char c;int a[3];struct s*n;struct q q;long l;};int g;int h[4];struct s t;struct s u[2];"

// TestPointers has pointers to all that can be pointed to, globals and variables.
func TestPointers(t *testing.T) {
	in := func(statements string) string { return front + "int main(){" + statements + "}" }
	// With locals in their places that hide the globals.
	hidden := func(statements string) string {
		return front + "int main(){int g;int h[4];struct s t;struct s u[2];h[0]=0;u[0].c=0;" + statements + "}"
	}
	for _, c := range []tale{
		{"int*p=&g;*p=3;return g;", nil, nil, "halt 3"},
		{"int*p=h;p[3]=3;p=p+2;*p=2;p=p-1;*p=1;return h[1]+h[2]*10+h[3]*100;", nil, nil, "halt 321"},
		{"int*p=&h[3];p[-1]=5;return *(&h[1]+1);", nil, nil, "halt 5"},
		{"*h=5;return h[0];", nil, nil, "halt 5"},
		{"int*p=t.a;p[2]=5;return t.a[2];", nil, nil, "halt 5"},
		{"int*p=&t.a[1];*p=5;return (&t)->a[1];", nil, nil, "halt 5"},
		{"struct s*p=&t;p->c=200;p->l=1<<20;p->q.i=9;p->n=p;out(t.c);out(t.l);return p->n->n->q.i;", nil, nil, "halt 9"},
		{"struct q*p=&t.q;p->i=9;p->c=300;out(t.q.c);return t.q.i;", nil, nil, "halt 9"},
		{"struct s*p=u;p=p+1;p->c=1;(*p).l=2;return u[1].c+u[1].l*10;", nil, nil, "halt 21"},
		{"u[1].a[2]=7;u[1].n=u;u[1].n->q.c=8;return u[1].a[2]*10+u->q.c;", nil, nil, "halt 78"},
		{"int x;int*p=&x;int**q=&p;**q=6;return x;", nil, nil, "halt 6"},
		{"int*p[2];p[1]=h;p[1][2]=6;return *(p[1]+2);", nil, nil, "halt 6"},
		{"char c[3];char*p=c+2;*p=77;p=p-2;return p[2];", nil, nil, "halt 77"},
		{"long x[2];long*p=1+x;*p=77;return *(x+1);", nil, nil, "halt 77"},
		{"char i=2;long j=1;h[i]=4;h[j]=3;out(*(h+i));out(*(j+h));return h[i-j+1];", nil, nil, "halt 4"},
		{"h[3]=4;return *(1+(1+(h+1)));", nil, nil, "halt 4"},
		{"h[3]=4;int i=1;long j=2;return *(i+(j+h));", nil, nil, "halt 4"},
		{"h[2]=4;int*p[2];p[1]=1+h;return *(1+*(1+p));", nil, nil, "halt 4"},
		{"u[1].a[1]=4;return *(1+(1+u)->a);", nil, nil, "halt 4"},
		{"void*p=(void*)h;int*q=(int*)p;q[1]=4;return ((int*)p)[1];", nil, nil, "halt 4"},
		{"h[1]=0;char*p=(char*)h;p[5]=1;return h[1];", nil, nil, "halt 256"},
		{"h[1]=513;char*p=(char*)(h+1);out(p[0]);out(p[1]);return p[2];", nil, nil, "halt 0"},
		{"long x=-2;int*p=(int*)&x;out(*p);out(p[1]);p[0]=5;return x>>32;", nil, nil, "halt -1"},
		{"return *(h+4-4);", nil, nil, "halt 0"}, {"return *(h-4+4);", nil, nil, "halt 0"}, {"return *(4+(h-4));", nil, nil, "halt 0"}, {"return h[(long)1<<62];", nil, nil, "halt 0"},
		{"return *&*&*h;", nil, nil, "halt 0"}, {"(&(*u).q)->i=3;return (*&u[0]).q.i;", nil, nil, "halt 3"},
	} {
		tell(t, []tale{{in(c.text), nil, nil, c.want}, {hidden(c.text), nil, nil, c.want}})
	}
	tell(t, []tale{
		{"struct p{char c;int i;char d;long l;};int main(){out(sizeof(struct p));out(sizeof(struct p[3]));out(sizeof(int*));out(sizeof(char[7]));out(sizeof(long)<<29);return sizeof(int)*1073741824;}", nil, nil, "halt 0"},
		{"struct n{int v;struct n*next;};struct n a[4];int main(){int i=0;while(i<3){a[i].v=i+1;a[i].next=a+(i+1);i=i+1;}struct n*p=a;int s=0;while(p){s=s*10+p->v;p=p->next;}return s;}", nil, nil, "halt 1230"},
		{"int*g;void f(int n){int x=n;int*p=&x;if(n)f(n-1);else g=p;*g=*g+1;out(*g);if(n)g=p;}int main(){f(0);return 1;}", nil, nil, "halt 1"},
	})
}

// TestPointersCompared has == and != of pointers, of 0 and of one another, in a frame that they share.
func TestPointersCompared(t *testing.T) {
	texts := strings.Fields("p==p p!=p p==h h==p p+1==p p+1!=p p+1==&h[1] h+4==&h[3]+1 &h[0]==h p-1==h-1 p==0 p!=0 0==p 0!=p z==0 z!=0 0==z 0!=z z==z z!=z p==z z==p p!=z z!=p p==(0) " +
		"!p !z !h p&&1 z&&1 1&&p 1&&z z||0 p||0 z||p &u.b==&u.a+1 &u.a==(int*)&u (void*)p==(void*)h (char*)p+4==(char*)(p+1) &g==&g &*p==p z+1==0 z+1!=z z+1==z+1 1+p==p+1 1+z==z+1")
	for _, where := range []string{"D int main(){int*p=h;int*z=0;return E;}", "int main(){D int*p=h;int*z=0;return E;}", "int f(int*p,int*z){&p;D p=h;return E;}int main(){return f(0,0);}"} {
		for _, e := range texts {
			c := pairOf(t, "struct s{int a;int b;};"+strings.NewReplacer("D", "int g;int h[4];struct s u;", "E", e).Replace(where))
			if r := c.holdsThroughout(nil, nil); r.Kind != api.Halt {
				t.Errorf("P8.1: %s: %s", c.text, end(r))
			}
		}
	}
	tell(t, []tale{
		{"int f(int*p,int*q){return p==q;}int main(){int x[2];return f(x,&x[0])*10+f(x,x+1);}", nil, nil, "halt 10"},
		{"int f(int*p){return p==0;}int main(){int x;return f(0)*10+f(&x);}", nil, nil, "halt 10"},
		{"int*f(int a){if(a)return 0;return g;}int g[2];int main(){return (f(1)==0)*10+(f(0)==g);}", nil, nil, "halt 11"},
		{"int*f(){int x;return &x;}int main(){int*p=f();out(p==p);out(p!=0);return p+1==p;}", nil, nil, "halt 0"},
	})
}

// TestUnknownValues: what is Undef is handed on wherever the source hands it on.
func TestUnknownValues(t *testing.T) {
	in := func(statement string) string {
		return "int g[2];int f(int a){return 0;}int f8(char a){&a;return 0;}int fl(long a){return 0;}int fp(int*p){&p;return 0;}int fu(){int x;return x;}long fv(){int x;return x;}int*fw(){int*p;return p;}struct s{int a;int b;int c[2];};struct z{struct s s;};int main(){char c;int x;long y;int*p;struct s*q;struct z*r;int z[2];out(5);" + statement + "out(6);return 7;}"
	}
	for _, text := range strings.Fields("x; y; p; c; z[0]; (int)x; (long)x; (char)c; (int)c; (long)y; (char*)p; &*p; &*&*p; &q->a; &(*q).a; &r->s; &r->s.a; &(*r).s.a; x=c; y=x; c=c; p=p; g[1]=x; z[1]=z[0]; fl(x); f(x); f(c); f8(c); fl(y); fp(p); fl(c); " +
		"fu(); x=fu(); y=fv(); p=fw(); f(fu()); fp(fw()); {int*v=p;} {int*v=&q->a;} {long*v=&y;long*w=v;y=*v;} {char*v=&c;c=*v;} 0&&x; 1||x; 0&&1/x;") {
		pairOf(t, in(text)).ends(nil, nil, "halt 7")
	}
	// Where the source is stuck, all that it did ahead of that is done.
	for _, text := range strings.Fields("x+in(); x+fe(3); in()+x; g[x]; x+gp(3); gp(x); x+(1+gp(3)); gp(1)-x; gp(2)[x]; f2(y,fe(3)); f2(fe(3),y); *p=fe(3); g[x]=fe(3); gp(3)[x]=fe(4); gp(1)[fe(7)]=fe(4); q->b=fe(4); q->a=fe(4); y=fe(3)+y; " +
		"c=fe(3)+x; x=x<<fe(3); x/fe(3); fe(3)/x; fe(1)/fe(0); fe(1)%fe(0); fe(3)&&x; fe(0)||x; x&&fe(3); !x+fe(3); -x+fe(3); out(x+fe(3)); if(x+fe(3)); while(x==fe(3)); while(fe(3))x+1; return(x+fe(3)); out(fe(3));return(x); (fe(3)<<fe(32)); fe(3)==x; gp(3)==gq(3); x+(x+gp(3)); 1+(x+gp(3)); x+(fe(2)+gp(3));") {
		c := pairOf(t, "int g[2];int k[2];int fe(int a){out(a);return a;}int*gp(int a){out(a);return g;}int*gq(int a){out(a);return k;}int f2(int a,int b){return 0;}struct s{int a;int b;};int main(){char c;int x;long y;int*p;struct s*q;out(5);"+text+"return 7;}")
		c.ends(nil, l(9), "stuck")
	}
}

// TestPointersAsNumbers: what is stored as a pointer may be loaded as a long, and the other way.
func TestPointersAsNumbers(t *testing.T) {
	for _, text := range strings.Fields("x; x+1; 1+x; x-1; !x; x==x; x!=x; x==0; 0!=x; x&&1; 0||x; (long)x; x=x+4; if(x); p; p+1; p-1; p==0; p==p; !p; p&&1; {long*r=&x;int**s=(int**)r;**s=4;} {int*r=*(int**)&x;*r=3;} fl(x); fm(x); x+0==fl(x); out(x==0);") {
		for _, where := range []string{"int g[3];int*h;long n;int main(){", "int main(){int g[3];int*h;long n;"} {
			c := pairOf(t, "long fl(long a){return a;}long fm(long a){&a;return a;}"+where+"g[0]=0;h=g;n=5;long x=*(long*)&h;int*p=*(int**)&n;out(5);"+text+"out(6);return g[0];}")
			if r := c.holdsThroughout(nil, nil); r.Kind != api.Halt || len(r.Events) < 2 {
				t.Errorf("P8.1: %s: %s", c.text, end(r))
			}
		}
	}
}

func TestCalls(t *testing.T) {
	tell(t, []tale{
		{"int f(int n){int x=n;if(n)f(n-1);out(x);out(n);return 0;}int main(){return f(2);}", nil, nil, "halt 0"},
		{"int f(int n){int x=n;int*p=&x;if(n)f(n-1);*p=*p+10;out(x);return 0;}int main(){return f(2);}", nil, nil, "halt 0"},
		{"int f(int n,int*p){&n;n=n+1;*p=n;if(n<4)f(n,&n);return n;}int main(){int x;out(f(1,&x));return x;}", nil, nil, "halt 2"},
		{"int f(int a){if(a<2)return 1;return a*f(a-1);}int main(){return f(10);}", nil, nil, "halt 3628800"},
		{"int even(int n){if(n==0)return 1;return odd(n-1);}int odd(int n){if(n==0)return 0;return even(n-1);}int main(){return even(11)*10+odd(11);}", nil, nil, "halt 1"},
		{"int f(int n){if(n<2)return n;return f(n-1)+f(n-2);}int main(){return f(7);}", nil, nil, "halt 13"},
		{"int f(int a,char b,long c,int*d,int e,int g){*d=a+b+c;return e-g;}int main(){int x;int y=f(1,259,1<<20,&x,50,8);out(x);return y;}", nil, nil, "halt 42"},
		{"int f(int a,char b,long c,int*d,int e,int g){&a;&b;&c;&d;&e;&g;*d=a+b+c;return e-g;}int main(){int x;int y=f(1,259,1<<20,&x,50,8);out(x);return y;}", nil, nil, "halt 42"},
		{"int f(int n){out(n);return n;}int g(int a,int b,int c){return a*100+b*10+c;}int main(){return g(f(1),f(2),g(0,f(3),f(4)))+f(5)*(f(6)-f(7));}", nil, nil, "halt 149"},
		{"int g;int f(int a){g=g+a;return g;}int main(){g=1;return g*1000+f(2)*100+g*10+f(4);}", nil, nil, "halt 1337"},
		{"int k[4];int g;int f(){g=g+1;return g;}int main(){k[f()]=f();k[f()-1]=g;int*p=k;p[f()-4]=7;*(f()-2+p)=9;return k[0]*1000+k[1]*100+k[2]*10+k[3];}", nil, nil, "halt 7239"},
		{"char f(int n){return n;}long h(char n){return n*n;}int main(){return h(f(200))+h(300);}", nil, nil, "halt 5072"},
		{"int*f(int*p,int n){if(n)return f(p+1,n-1);return p;}int main(){int a[3];a[0]=1;a[1]=2;a[2]=3;return *f(a,2)*10+*(f(a,1)-1);}", nil, nil, "halt 31"},
	})
	// The room of a variable that is held besides is each call's own, and each place's.
	tell(t, []tale{
		{"int k[9];int*f(int n){if(n)return n-1+f(n-1);return k;}int main(){k[3]=4;return *f(3);}", nil, nil, "halt 4"},
		{"int k[9];int f(int n){out(n);return n;}int main(){k[6]=4;return *(f(1)+(f(2)+(f(3)+k)))+*((f(0)+*(f(0)+k))*0+(f(6)+k));}", nil, nil, "halt 8"},
	})
}

// TestDeepCalls has as many calls within one another as a source may have, each in as deep a part as may be.
func TestDeepCalls(t *testing.T) {
	for _, wrap := range [][2]string{{"", ""}, {"-", ""}, {"(long)", ""}, {"1+(", ")"}, {"h(", ")"}, {"1&&(", ")"}} {
		deep := strings.Repeat(wrap[0], 90) + "f(n-1)" + strings.Repeat(wrap[1], 90)
		c := pairOf(t, "long h(long n){return n;}long f(int n){if(n)return "+deep+";return 0;}int main(int n,int m){while(m){f(n);m=m-1;}return 3;}")
		// Of main's and f's: 1000.
		source := c.told(l(998, 1), nil, 10000000)
		made := c.run(l(998, 1), nil, 10000000)
		if end(source) != "halt 3" || !trace.Same(source, made) || made.Steps > 100*source.Steps {
			t.Errorf("P10.2: %s: %s, %d steps, the source %s, %d", c.text, end(made), made.Steps, end(source), source.Steps)
		}
	}
	c := pairOf(t, "int f(int n){&n;if(n)return f(n-1);return 0;}int main(int n,int m){while(m){f(n);m=m-1;}return 3;}")
	for _, args := range [][]int64{{998, 1}, {998, 7}, {0, 5000}} {
		if r := c.holds(args, nil, 99990); r.Kind != api.Halt {
			t.Errorf("P8.1: %v: %s", args, end(r))
		}
	}
}

// TestGreatFrames: a source's variables may take MaxSize bytes, and its parameters more on top of them.
func TestGreatFrames(t *testing.T) {
	six := "int f(char a,int b,long c,int*d,char*e,struct s*s)"
	begin := "struct s{char c;int a[3];long l;};struct s k;char m;"
	for _, locals := range []string{"char x[65536];", "char x[65528];", "long z[8190];char x[8];", "char w;&w;w=1;long y[8186];char x[30];w=w+1;", "struct s t[2];char x[65488];t[1].l=3;t[0].c=2;"} {
		for _, taken := range []string{"", "&a;", "&b;", "&e;&a;", "&a;&b;&c;&d;&e;&s;"} {
			body := "{" + locals + taken + "x[0]=a;x[7]=b;a=a+1;b=b-1;c=c*2;*d=a*b;*e=c;s->l=c;d=0;e=x;out(x[0]);out(e[7]);out(a);out(b);out(c);out(d==0);if(b>0)return f(a,b,c,&s->a[1],e+7,s);return x[7]+a;}"
			text := begin + six + body + "int main(int n){int y;char z[65000];z[64999]=4;out(f(300,n,5,&y,&m,&k));out(y);out(k.a[1]);out(m);return z[64999];}"
			c := pairOf(t, text)
			for _, n := range []int64{0, 1, 3} {
				for _, fuel := range []int{10, 100, 200, 1000} {
					c.holds(l(n), nil, fuel)
				}
				if r := c.holds(l(n), nil, 2000); end(r) != "halt 4" {
					t.Errorf("P8.1: %s with %d: %s", text, n, end(r))
				}
			}
		}
	}
	// As many of them at once as a source may have, and as many behind one another.
	c := pairOf(t, "int f(int n,int m){char x[65520];&n;&m;x[65519]=n;if(n)return f(n-1,m);return m+x[65519];}int main(int n,int m){while(m){out(f(n,m));m=m-1;}return 3;}")
	for _, args := range [][]int64{{15, 3}, {0, 1000}} {
		if r := c.holds(args, nil, 99990); end(r) != "halt 3" {
			t.Errorf("P8.1: %v: %s", args, end(r))
		}
	}
}

// TestManyBlocks: a run makes no more blocks than its source, which may make 100000.
func TestManyBlocks(t *testing.T) {
	for _, c := range []struct {
		text string
		most int64
	}{
		{"void f(int a){&a;}int main(int n){while(n){f(n);n=n-1;}return 1;}", 100000},
		{"int g;void f(int a){&a;}int main(int n){int x[2];x[1]=2;while(n){f(n);n=n-x[1]+1;}return 1;}", 99998},
		{"void f(int a){&a;return;char x[65536];}int main(int n){while(n){f(n);n=n-1;}return 1;}", 50000},
		{"void f(int a){}int main(int n){while(n){f(n);n=n-1;}return 1;}", 150000},
	} {
		p := pairOf(t, c.text)
		source, made := p.told(l(c.most), nil, 10000000), p.run(l(c.most), nil, 10000000)
		if end(source) != "halt 1" || !trace.Same(source, made) {
			t.Errorf("P10.2: %s with %d: %s, the source %s", c.text, c.most, end(made), end(source))
		}
	}
}

// TestGreatTexts has as many of one thing as a text has room for.
func TestGreatTexts(t *testing.T) {
	fill := func(head, pattern, end string, most int) string {
		var b strings.Builder
		b.WriteString(head)
		for i := range most {
			next := strings.ReplaceAll(pattern, "%", fmt.Sprint(i))
			if b.Len()+len(next)+len(end) > api.MaxText {
				break
			}
			b.WriteString(next)
		}
		return b.String() + end
	}
	stars := strings.Repeat("*", api.MaxText/2)
	for _, text := range []string{
		fill("int main(){", ";", "return 7;}", 19000), fill("int main(){out(0", "+1", ");return 7;}", 190), fill("int"+stars+"g;int main(){", "g=0;", "return 7;}", 6000), fill("int"+stars+"g;int main(){", "&g[%];", "return 7;}", 3900),
		fill("", "char g%[65536];", "int main(){return 7;}", 200), fill("int main(){", "int v%=v%;", "return 7;}", 200), fill("int main(){", "char v%;&v%;", "return 7;}", 200), fill("int k[2];int main(){", "1+k;", "return 7;}", 4900), fill("int k[2];int main(){", "1+(", "k"+strings.Repeat(")", 90)+";return 7;}", 90),
		fill("struct s{", "char f%;", "};struct s g;int main(){g.f1=7;return g.f1;}", 6000), fill("", "struct s%{char c;};", "int main(){struct s9 x;x.c=7;return x.c;}", 9999), fill("int f0(){return 7;}", "int f%a(){return f0();}", "int main(){return f97a();}", 98),
	} {
		c := pairOf(t, text)
		if r := c.holds(nil, nil, 30000); end(r) != "halt 7" {
			t.Errorf("P8.1: %.60s..: %s", text, end(r))
		}
		if c.made.Text() != pairOf(t, text).made.Text() {
			t.Errorf("P10.1: Text of %.60s..", text)
		}
	}
}
