package sel

import (
	"testing"

	"plumbob/api"
	"plumbob/trace"
)

// leakTheSame tells whether a source leaks the same at each fuel on two lists of args and worlds, and is not Stuck; and asks that then what is chosen does. Of a long run some fuels are left out.
func (c *trio) leakTheSame(first, firstWorld, second, secondWorld []int64) bool {
	c.Helper()
	const most = 3000
	a, b := c.told(first, firstWorld, most), c.told(second, secondWorld, most)
	if a.Kind == api.Stuck || !trace.Leaks(a, b) || a.Steps != b.Steps {
		return false
	}
	for fuel := 0; fuel < a.Steps; fuel += 1 + a.Steps/200 {
		if !trace.Leaks(c.told(first, firstWorld, fuel), c.told(second, secondWorld, fuel)) {
			return false
		}
	}
	last := most
	if a.Kind == api.Halt {
		last = c.run(first, firstWorld, 100*most+1000).Steps + 2
	}
	for fuel := 0; fuel <= last; fuel += 1 + last/300 {
		a, b := c.run(first, firstWorld, fuel), c.run(second, secondWorld, fuel)
		if !trace.Leaks(a, b) || a.Steps != b.Steps {
			c.Fatalf("P10.3: %.3000s with %v / %v and %v / %v: with fuel %d\n%d %s\n%d %s", c.text, first, firstWorld, second, secondWorld, fuel, a.Kind, tellLeaks(a.Leaks), b.Kind, tellLeaks(b.Leaks))
		}
	}
	return true
}

// TestTheSameLeaks has programs whose secrets are in no leak: in each way in which a value can be used that is none, and with all constants that operations are chosen by.
func TestTheSameLeaks(t *testing.T) {
	for _, body := range []string{
		"return s*3+(s==7);", "return s*8-s*1+2*s*0+s*1024*z;", "return (s+1)+(z-2)+3;", "return 5-s+(9-z);", "return -s^(~s>>3)&!s;", "out(s);return s<<(z&31);", "return z>>(s&63);", "return (s<<3)+(z>>5);", "return !s+!!s+(s<z)+(s<=z)+(s>3)+(3>=s)+(0==z)+(s!=z);",
		"return !(s<z)+((s==3)==0)+(0!=(z>s))+!!!(s<=z);", "return (char)s+(int)z;", "return s&255|z^4294967296;", "int i=s;char c=z;long w=i*c;return w|c;", "g=s;return g;", "h[1]=s;h[2]=h[1]+z;return h[n&3];", "t.c=s;t.l=z;return t.l-t.c;",
		"int x=s;int*p=&x;*p=*p+z;return x;", "long a[3];a[0]=s;a[1]=z;a[2]=a[0]*a[1];return a[2];", "struct r u;u.l=s;u.c=u.l;struct r*p=&u;p->l=p->c-z;return u.l;",
		"return f(s)+f(z);", "return d(s,z,1);", "out(in()+s);return in()*z;", "int i=0;long w=s;while(!(i>=4)){w=w*31+(z>>i);i=1+i;}return w;", "if(!(n<=1||9<=n))out(s);else out(z);return s;", "return n&&1||s;", "return !(n&&!(n>9))+s;",
		"return h[n&3]*s+n/(n|1)+n/8+n%2;", "return s*(n%7);", "int m=-(s<z);return s&m|z&~m;", "return s-s*(z==0);", "s=z;z=s+1;return s;", "&s;&z;s=z*3;return s;", "return (n||s)+n;",
		"long*p=h;p=(s&0)+p;return *p+s;", "return *(n+h-n)^s;", "return h+(n&1)==h;", "while(n){n=n-1;if(n==2)continue;if(!(n!=1))break;out(s);}return z;",
	} {
		c := trioOf(t, "struct r{char c;long l;};int g;long h[4];struct r t;long f(long a){&a;return a*2;}int d(int a,char b,int k){if(k)return d(b,a,k-1)+1;return a-b;}long main(int n,long s,long z){"+body+"}")
		asked := 0
		for i, s := range edges {
			if c.leakTheSame(l(4, s, edges[(i*7+3)%len(edges)]), l(s, 2), l(4, edges[(i*5+1)%len(edges)], 9), l(-s)) {
				asked++
			}
		}
		if asked != len(edges) {
			t.Errorf("P8.1: %s leaks the same but for %d of %d", body, len(edges)-asked, len(edges))
		}
	}
}

// TestUnlikeLeaks: what the source shows may be shown, and each branch, access, division and call that is done is.
func TestUnlikeLeaks(t *testing.T) {
	for _, body := range []string{"if(s)return 1;return 2;", "if(!s)return 1;return 2;", "while(s)return 1;return 2;", "while(!(s<1))return 1;return 2;", "return s&&1;", "return !(s||0);", "return 1&&s;", "return s/3;", "return s/8;", "return s/1;", "return 7%(s+1);", "return h[s!=0];", "h[s==0]=1;return 1;", "int a[2];a[s&1]=3;return 2;", "if(!s)f();return 1;"} {
		c := trioOf(t, "int h[2];int f(){return 1;}int main(int s){"+body+"}")
		if trace.Leaks(c.run(l(0), nil, 1000), c.run(l(1), nil, 1000)) {
			t.Errorf("P11.1: %s leaks the same of 0 and 1", c.text)
		}
	}
}

// TestGreatestFuel: two runs that a source tells apart behind its greatest fuel alone are told apart at no fuel, however many of its parts one operation stands for.
func TestGreatestFuel(t *testing.T) {
	front := "struct q{int i;int j[2];};struct p{long l;struct q q;};struct p k[2];int main(int n,int s){int i=0;long w=s;struct p*p=k;"
	for _, body := range []string{"w=1+(w+2)+3-4*8*w*1;", "if(!!!!(w<3&&!(5>w||w==0)))w=w+1;w=!!w;", "p[1].q.j[1]=k[1].q.i+k[0].q.j[0];", ";(long)(long)(1+2+3);"} {
		c := trioOf(t, front+"while(!(i>=n)){i=1+i;"+body+"}if(s)return 1;return 2;}")
		uses := c.told(l(2, 0), nil, 1000).Steps - c.told(l(1, 0), nil, 1000).Steps
		times := int64(10000000/uses + 1)
		zero, one := l(times, 0), l(times, 1)
		if a, b := c.told(zero, nil, 10000000), c.told(one, nil, 10000000); a.Kind != api.Fuel || b.Kind != api.Fuel {
			t.Errorf("P8.1: %s ends within the greatest fuel: %s", c.text, end(a))
		}
		if r := c.told(l(times-9, 1), nil, 10000000); r.Kind != api.Halt {
			t.Errorf("P8.1: %s with less to do: %s", c.text, end(r))
		}
		if a, b := c.run(zero, nil, 10000000), c.run(one, nil, 10000000); a.Kind != api.Fuel || b.Kind != api.Fuel {
			t.Errorf("P10.3: %s: %s with %d leaks, and %s with %d", c.text, end(a), len(a.Leaks), end(b), len(b.Leaks))
		}
	}
}
