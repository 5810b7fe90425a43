package sel

import (
	"fmt"
	"strings"
	"testing"

	"plumbob/api"
	"plumbob/trace"
)

// tale is a text, what it is given, and how it ends.
type tale struct {
	text        string
	args, world []int64
	want        string
}

// tell asks of each tale that the source comes to its end and what was chosen does the same, at each fuel on the way.
func tell(t *testing.T, tales []tale) {
	t.Helper()
	for _, c := range tales {
		trioOf(t, c.text).ends(c.args, c.world, c.want)
	}
}

func TestStatements(t *testing.T) {
	tell(t, []tale{
		{"int main(){;{;{}};return 3;}", nil, nil, "halt 3"},
		{"int main(int a){if(a)if(a-1)return 1;else return 2;return 3;}", l(0), nil, "halt 3"},
		{"int main(int a){if(a)if(a-1)return 1;else return 2;return 3;}", l(1), nil, "halt 2"},
		{"int main(int a){if(a){out(1);}else{out(2);}if(!a)out(3);return 3;}", l(0), nil, "halt 3"},
		{"int main(int n){int s=0;while(n){n=n-1;if(n==3)continue;if(n==1)break;s=s*10+n;out(s);}return s;}", l(6), nil, "halt 542"},
		{"int main(){int i=0;int s=0;while(i<4){int k=0;while(1){k=k+1;if(k>i)break;if(k==2)continue;s=s+k;while(0)out(9);}i=i+1;}out(s);return s;}", nil, nil, "halt 6"},
		{"int main(){int i=0;while(1){while(1){i=i+1;if(!(i<=3))return i;break;}continue;}}", nil, nil, "halt 4"},
		{"int main(){while(in())out(in()*4);return in()-1;}", nil, l(1, 2, 3, 4, 0, 9), "halt 8"},
		{"void f(int a){if(a)return;out(a);}int main(){f(1);f(0);out(2);f(3);return 1;}", nil, nil, "halt 1"},
		{"int g;int main(){g;3;g+1;in();&g;g=1;g=g+g;return g;}", nil, l(4), "halt 2"},
		{"int main(int n){while(n){int x;if(n==1)return x;x=n*7;n=n-1;}return 0;}", l(2), nil, "halt 14"},
		{"int x;int main(){x=5;{int x=7;out(x);x=8;}{int x2=x;int*p=&x;*p=x2+1;}return x;}", nil, nil, "halt 6"},
		{"char c;char f(long a){return a*100;}int main(int a){c=f(a);out(c);out(~c);out(-c);c=c+(char)a;return (int)4294967298+c;}", l(3), nil, "halt 49"},
	})
	// Without an end.
	for _, text := range []string{"int main(){while(1)out(in()+1);}", "int main(){long x=1;while(1){x=x*3+1;out(x);}return 0;}", "int main(){while(1){while(1){if(!!in())break;continue;}out(3);}}"} {
		c := trioOf(t, text)
		for _, fuel := range []int{0, 1, 9, 10, 500, 2000, 99990} {
			if r := c.holds(nil, l(1, 0, 2, 3), fuel); r.Kind != api.Fuel {
				t.Errorf("P8.1: %s: %s", text, end(r))
			}
		}
	}
}

func TestCalls(t *testing.T) {
	tell(t, []tale{
		{"int f(int n){int x=n;if(n)f(n-1);out(x);out(n);return 0;}int main(){return f(2);}", nil, nil, "halt 0"},
		{"int f(int n,int*p){&n;n=n+1;*p=n;if(n<4)f(n,&n);return n;}int main(){int x;out(f(1,&x));return x;}", nil, nil, "halt 2"},
		{"int f(int a){if(a<2)return 1;return a*f(a-1);}int main(){return f(10);}", nil, nil, "halt 3628800"},
		{"int even(int n){if(n==0)return 1;return odd(n-1);}int odd(int n){if(n==0)return 0;return even(n-1);}int main(){return even(11)*10+odd(11);}", nil, nil, "halt 1"},
		{"int f(int a,char b,long c,int*d,int e,int g){&a;&b;&c;&d;&e;&g;*d=a+b+c;return e-g;}int main(){int x;int y=f(1,259,1<<20,&x,50,8);out(x);return y;}", nil, nil, "halt 42"},
		{"int f(int n){out(n);return n;}int g(int a,int b,int c){return a*100+b*10+c;}int main(){return g(f(1),f(2),g(0,f(3),f(4)))+f(5)*(f(6)-f(7));}", nil, nil, "halt 149"},
		{"int g;int f(int a){g=g+a;return g;}int main(){g=1;return g*1000+f(2)*100+g*10+f(4);}", nil, nil, "halt 1337"},
		{"int g;long f(int a){g=g+a;return g;}int main(){g=1;return (g+1)+(f(2)+2)*(3+f(4))+(g+f(1))+(f(1)+g)+5;}", nil, nil, "halt 90"},
		{"long f(int n){out(n);return n;}long*p;long k[9];long*h(int n){out(n);return k+n;}int main(){out((f(1)+7)+(f(2)+8)+f(3));out(f(1)+(7+f(2)));out(8*f(4)+(f(5)+1)*2);*(f(3)+(h(2)+1))=h(1)+f(5)+2==h(3)+1+f(4);out(6==f(6));return h(5)[f(1)]+(0!=(f(2)<f(3)))*2;}", nil, nil, "halt 3"},
		{"int k[4];int g;int f(){g=g+1;return g;}int main(){k[f()]=f();k[f()-1]=g;int*p=k;p[f()-4]=7;*(f()-2+p)=9;return k[0]*1000+k[1]*100+k[2]*10+k[3];}", nil, nil, "halt 7239"},
		{"int k[9];int*f(int n){if(n)return n-1+f(n-1);return k;}int main(){k[3]=4;return *f(3);}", nil, nil, "halt 4"},
	})
	// As many calls within one another as a source may have, each in as deep a part as may be.
	for _, wrap := range [][2]string{{"", ""}, {"-", ""}, {"1+(", ")"}, {"2*(", ")"}, {"h(", ")"}, {"1&&(", ")"}, {"!", ""}} {
		deep := strings.Repeat(wrap[0], 90) + "f(n-1)" + strings.Repeat(wrap[1], 90)
		c := trioOf(t, "long h(long n){return n;}long f(int n){if(n)return "+deep+";return 0;}int main(int n){f(n);return 3;}")
		source, made := c.told(l(998), nil, 10000000), c.run(l(998), nil, 10000000)
		if end(source) != "halt 3" || !trace.Same(source, made) || made.Steps > 100*source.Steps {
			t.Errorf("P10.2: %s: %s, %d steps, the source %s, %d", c.text, end(made), made.Steps, end(source), source.Steps)
		}
		if r := c.run(l(999), nil, 10000000); r.Kind == api.Halt {
			t.Errorf("P11.1: %s, deeper: %s", c.text, end(r))
		}
	}
}

const front = "struct q{char c;int i;};struct s{char c;int a[3];struct s*n;struct q q;long l;};int g;int h[4];struct s t;struct s u[2];"

// TestAddresses has accesses with offsets: of fields, of elements, of both, with a constant and without, before and behind.
func TestAddresses(t *testing.T) {
	for _, c := range []struct{ text, want string }{
		{"int*p=h;p[3]=3;p=p+2;*p=2;p=p-1;*p=1;return h[1]+h[2]*10+h[3]*100;", "halt 321"},
		{"int*p=&h[3];p[-1]=5;p[-2]=6;return *(&h[1]+1)*10+*(p-2);", "halt 56"},
		{"int*p=t.a;p[2]=5;p[0]=1;return t.a[2]*10+*t.a;", "halt 51"},
		{"int*p=&t.a[1];*p=5;return (&t)->a[1];", "halt 5"},
		{"struct s*p=&t;p->c=200;p->l=1<<20;p->q.i=9;p->n=p;out(t.c);out(t.l);return p->n->n->q.i;", "halt 9"},
		{"struct q*p=&t.q;p->i=9;p->c=300;out(t.q.c);return t.q.i;", "halt 9"},
		{"struct s*p=u;p=p+1;p->c=1;(*p).l=2;return u[1].c+u[1].l*10;", "halt 21"},
		{"u[1].a[2]=7;u[1].n=u;u[1].n->q.c=8;return u[1].a[2]*10+u->q.c;", "halt 78"},
		{"int i=1;long j=2;u[i].a[j]=7;u[i-1].a[j-1]=3;u[i].a[i+1]=u[i].a[j]+1;(u+i)->a[j-2]=9;return u[1].a[2]*100+u[0].a[1]*10+*u[1].a;", "halt 839"},
		{"int i=2;long j=1;h[i+1]=4;h[j]=3;h[3-i]=h[i+j]+h[j];out(*(h+i+1));return h[i-j];", "halt 7"},
		{"long j=-3;long k=5;h[j+4]=4;h[k-3]=6;return *(h+j+4)*10+*(j+h+5);", "halt 46"},
		{"char c[9];long i=3;c[i]=1;c[i+1]=2;c[i-1]=3;c[8]=4;char*p=c+8;return p[-4]*1000+p[i-8]*100+*(p-6)*10+*p;", "halt 2134"},
		{"h[3]=4;int i=1;long j=2;return *(i+(j+h))+*(1+(1+(h+1)))*10;", "halt 44"},
		{"h[2]=4;int*p[2];p[1]=1+h;return *(1+*(1+p));", "halt 4"},
		{"h[1]=513;char*p=(char*)(h+1);out(p[0]);out(p[1]);return p[2];", "halt 0"},
		{"return *(h+4-4)+*(h-4+4)+*(4+(h-4))+h[(long)1<<62];", "halt 0"}, {"h[1]=6;return *(h+536870913-536870912);", "halt 6"}, {"h[1]=6;return *(h+1073741824+1-1073741824);", "halt 6"}, {"h[1]=6;return h[1+((long)1<<62)];", "halt 6"}, {"h[2]=6;return *(h-2305843009213693951+2305843009213693953);", "halt 6"},
		{"(&(*u).q)->i=3;return (*&u[0]).q.i;", "halt 3"}, {"long x[3];long*p=x+2;*p=5;p[-1]=p-1==&x[1];return x[1]*10+x[2];", "halt 15"},
	} {
		for _, where := range []string{"int main(){", "int main(){int g;int h[4];struct s t;struct s u[2];h[0]=0;u[0].c=0;"} {
			trioOf(t, front+where+c.text+"}").ends(nil, nil, c.want)
		}
	}
	// What lies beside is Stuck, and leaks where it would have been.
	for text, want := range map[string]string{
		"return h[4];": "a2+16", "return h[-1];": "a2+-4", "h[4]=1;return 1;": "a2+16", "int*p=0;return p[3];": "", "struct s*p=0;return p->a[1];": "", "return *(int*)((char*)h+3);": "a2+3", "return h[536870912];": "a2+2147483648", "int*p;return p[1];": "", "long x=5;return *(int*)(*(char**)&x+4);": "a5+0 a5+0",
	} {
		c := trioOf(t, front+"int main(){"+text+"}")
		if r := c.run(nil, nil, 1000); r.Kind != api.Stuck || tellLeaks(r.Leaks) != want {
			t.Errorf("P11.1: %s: %s, leaks %q, want %q", c.text, end(r), tellLeaks(r.Leaks), want)
		}
	}
}

// TestFields has each field of a struct, of globals and variables, through pointers and arrays.
func TestFields(t *testing.T) {
	fields := []string{"c", "q.c", "q.i", "l", "a[0]", "a[3]", "a[i]", "a[i+1]", "a[j-1]", "b[1]", "b[j]"}
	text := "struct q{char c;int i;};struct s{struct q q;char c;long l;int a[4];long b[3];};struct s g;struct s k[3];int f(struct s*p,int i,long j){out(p->F);p->F=p->F+1;p=p+1;p->F=7;out(p[-1].F+p->F);return p->F;}" +
		"int main(int i,long j){struct s x[2];x[0].F=5;x[1].F=1;g.F=i;k[i].F=j;k[j].F=i;k[i-1].F=300;out(f(x,i,j));out(f(k,i,j));out(x[0].F);out((x+1)->F);out(g.F);return k[1].F+(&g)->F+(*(k+j)).F;}"
	for _, field := range fields {
		c := trioOf(t, strings.ReplaceAll(text, "F", field))
		for i := int64(1); i < 3; i++ {
			for j := int64(1); j < 3; j++ {
				if r := c.holds(l(i, j), nil, 2000); r.Kind != api.Halt {
					t.Errorf("P8.1: %s: %s", c.text, end(r))
				}
			}
		}
	}
}

// TestUnknownValues: what is Undef is handed on wherever the source hands it on.
func TestUnknownValues(t *testing.T) {
	in := func(statement string) string {
		return "int g[2];int f(int a){return 0;}int fl(long a){return 0;}int fp(int*p){&p;return 0;}int fu(){int x;return x;}int*fw(){int*p;return p;}struct s{int a;int b;int c[2];};struct z{struct s s;};int main(){char c;int x;long y;int*p;struct s*q;struct z*r;int z[2];out(5);" + statement + "out(6);return 7;}"
	}
	for _, text := range strings.Fields("x; y; p; z[0]; z[1]; (int)x; (long)y; (char*)p; &*p; &q->a; &(*q).a; &r->s; &r->s.a; x=c; y=x; p=p; g[1]=x; z[1]=z[0]; f(x); fl(y); fp(p); fu(); x=fu(); p=fw(); fp(fw()); {int*v=&q->a;} {long*v=&y;y=*v;} 0&&x; 1||x; !(0&&1/x); !(1||x);") {
		trioOf(t, in(text)).ends(nil, nil, "halt 7")
	}
	// Where the source is stuck, all that it did ahead of that is done.
	for _, text := range strings.Fields("x+in(); (x+1)+fe(3); fe(3)+(1+x); in()+x; g[x]; g[x+1]=fe(3); x+gp(3); gp(x); 1+(x+gp(3)); gp(1)-x; gp(2)[x]; *p=fe(3); p[1]=fe(3); gp(3)[x]=fe(4); q->b=fe(4); y=fe(3)+y; x*8+fe(3); x*1+fe(3); (x+0)+fe(3); fe(3)&&x; !(fe(3)&&x); fe(0)||x; !x+fe(3); (!x==0)+fe(3); if(x+fe(3)); while(x==fe(3)); while(fe(3))x+1; return(x+fe(3)); (fe(3)<<fe(32)); fe(3)<<32; fe(3)/0; fe(3)==x; gp(3)==gq(3);") {
		c := trioOf(t, "int g[2];int k[2];int fe(int a){out(a);return a;}int*gp(int a){out(a);return g;}int*gq(int a){out(a);return k;}struct s{int a;int b;};int main(){char c;int x;long y;int*p;struct s*q;out(5);"+text+"return 7;}")
		c.ends(nil, l(9), "stuck")
	}
}

// TestPointersAsNumbers: what is stored as a pointer may be loaded as a long, and the other way: then a sum of numbers is one of a pointer.
func TestPointersAsNumbers(t *testing.T) {
	for _, text := range strings.Fields("x; x+1; 1+x; x-1; x+0; 0+x; x-0; 4+x-4; (x+4)+j; j+(x+4); (j-8)+(x+8); x+1==x+1; x+(j+1)==x+1+j; !x; !!x; x==x; x!=x; !(x==x); x==0; 0!=x; !(x==0); x&&1; 0||x; !(x&&j); if(x); if(!x); x=x+4; p; p+1; p-1; p==0; !p; p&&1; {long*r=&x;int**s=(int**)r;**s=4;} {x=x+4;int*r=*(int**)&x;r[-1]=3;} fl(x); fl(x+4); x+0==fl(x);") {
		for _, where := range []string{"int g[3];int*h;long n;int main(){", "int main(){int g[3];int*h;long n;"} {
			c := trioOf(t, "long fl(long a){return a;}"+where+"g[0]=0;h=g;n=5;long j=0;long x=*(long*)&h;int*p=*(int**)&n;out(5);"+text+"out(6);return g[0];}")
			if r := c.holdsThroughout(nil, nil); r.Kind != api.Halt || len(r.Events) < 2 {
				t.Errorf("P8.1: %s: %s", c.text, end(r))
			}
		}
	}
}

// TestPointersCompared has == and != of pointers, of 0 and of one another, and their opposites.
func TestPointersCompared(t *testing.T) {
	for _, e := range strings.Fields("p==p p!=p p==h p+1==p p+1!=p p+1==&h[1] h+4==&h[3]+1 p-1==h-1 p==0 0!=p z==0 0==z z==z p==z z!=p p==(0) &u.b==&u.a+1 (char*)p+4==(char*)(p+1) z+1==0 z+1!=z 1+p==p+1") {
		for _, turning := range []string{"E", "!(E)", "!!(E)", "(E)==0", "E&&1", "!(E||0)"} {
			for _, where := range []string{"int h[4];struct s u;int main(){int*p=h;int*z=0;", "int main(){int h[4];struct s u;int*p=h;int*z=0;"} {
				asked := strings.ReplaceAll(turning, "E", e)
				c := trioOf(t, "struct s{int a;int b;};"+where+"if("+asked+")out(1);return "+asked+";}")
				if r := c.holdsThroughout(nil, nil); r.Kind != api.Halt {
					t.Errorf("P8.1: %s: %s", c.text, end(r))
				}
			}
		}
	}
}

// TestGreatFrames: a source's variables may take MaxSize bytes, and its parameters more on top of them.
func TestGreatFrames(t *testing.T) {
	for _, locals := range []string{"char x[65536];", "char x[65528];", "long z[8190];char x[8];"} {
		for _, taken := range []string{"", "&a;", "&a;&b;&c;&d;&e;&s;"} {
			body := "{" + locals + taken + "x[0]=a;x[7]=b;a=a+1;b=b-1;c=c*2;*d=a*b;*e=c;s->l=c;d=0;e=x;out(x[0]);out(e[7]);out(a);out(b);out(c);out(d==0);if(b>0)return f(a,b,c,&s->a[1],e+7,s);return x[7]+a;}"
			c := trioOf(t, "struct s{char c;int a[3];long l;};struct s k;char m;int f(char a,int b,long c,int*d,char*e,struct s*s)"+body+"int main(int n){int y;char z[65000];z[64999]=4;out(f(300,n,5,&y,&m,&k));out(y);out(k.a[1]);out(m);return z[64999];}")
			for _, n := range []int64{0, 1, 3} {
				for _, fuel := range []int{10, 100, 200, 1000} {
					c.holds(l(n), nil, fuel)
				}
				if r := c.holds(l(n), nil, 2000); end(r) != "halt 4" {
					t.Errorf("P8.1: %s with %d: %s", c.text, n, end(r))
				}
			}
		}
	}
}

// TestManyBlocks: a run makes no more blocks than its source, which may make 100000.
func TestManyBlocks(t *testing.T) {
	for text, most := range map[string]int64{
		"void f(int a){&a;}int main(int n){while(n){f(n);n=n-1;}return 1;}": 100000,
		"void f(int a){}int main(int n){while(n){f(n);n=n-1;}return 1;}":    150000,
	} {
		c := trioOf(t, text)
		source, made := c.told(l(most), nil, 10000000), c.run(l(most), nil, 10000000)
		if end(source) != "halt 1" || !trace.Same(source, made) {
			t.Errorf("P10.2: %s with %d: %s, the source %s", text, most, end(made), end(source))
		}
	}
}

// TestGreatTexts has as many of one thing as a text has room for.
func TestGreatTexts(t *testing.T) {
	fill := func(head, pattern, end string, most int) string {
		var b strings.Builder
		b.WriteString(head)
		for i := range most {
			next := strings.ReplaceAll(pattern, "%", fmt.Sprint(i))
			if b.Len()+len(next)+len(end) > api.MaxText {
				break
			}
			b.WriteString(next)
		}
		return b.String() + end
	}
	for _, text := range []string{
		fill("int main(){", ";", "return 7;}", 19000), fill("int main(){long a=1;out(a", "+1", ");return 7;}", 190), fill("int main(){long a=1;out(a", "+(a+1", strings.Repeat(")", 96)+");return 7;}", 96), fill("int main(){long a=0;out(", "!", "a);return 7;}", 190), fill("int main(){long a=0;out(!", "(!a||!", "a"+strings.Repeat(")", 60)+");return 7;}", 60), fill("int main(){long a=0;out(!", "(a||!", "a"+strings.Repeat(")", 60)+");return 7;}", 60),
		fill("int main(){int a=1;", "if(!(a<%&&a))a=a+1;", "return 7;}", 1500), fill("int k[9];int main(){", "k[1]=k[2]+%;", "return 7;}", 1500), fill("int main(){", "while(0)", "return 7;}", 0), fill("int main(){", "{", "return 7;"+strings.Repeat("}", 190)+"}", 190),
	} {
		c := trioOf(t, text)
		if r := c.holds(nil, nil, 30000); end(r) != "halt 7" {
			t.Errorf("P8.1: %.60s..: %s", text, end(r))
		}
		c.isWellChosen()
		if c.chosen.Text() != trioOf(t, text).chosen.Text() {
			t.Errorf("P11.2: Text of %.60s..", text)
		}
	}
}
