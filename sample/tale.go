package sample

import "slices"

// Tale is a source, what it is given, and how it ends.
type Tale struct {
	Text        string
	Args, World []int64
	End         string // the last line of what is told of its run
}

// Tales have every kind of statement and expression.
func Tales() []Tale {
	return slices.Concat(ofStatements(), ofCalls(), ofLogic(), ofNumbers(), ofPlaces(), ofPointers(), ofUnknowns())
}

func l(numbers ...int64) []int64 { return numbers }

func ofStatements() []Tale {
	return []Tale{
		{"int main(){;{;{}};return 3;}", nil, nil, "halt 3"},
		{"int main(){return 5;out(1);}", nil, nil, "halt 5"},
		{"int main(int a){if(a)if(a-1)return 1;else return 2;return 3;}", l(0), nil, "halt 3"},
		{"int main(int a){if(a)if(a-1)return 1;else return 2;return 3;}", l(1), nil, "halt 2"},
		{"int main(int a){if(a)if(a-1)return 1;else return 2;return 3;}", l(2), nil, "halt 1"},
		{"int main(int a){if(a){out(1);}else{out(2);}if(!a)out(3);if(a);else out(4);if(a);return 3;}", l(0), nil, "halt 3"},
		{"int main(int a){if(a==1)return 1;else if(a==2)out(2);else if(a==3){return 3;}else out(4);return 5;}", l(2), nil, "halt 5"},
		{"int main(int a){if(a){if(a>1)return 1;else return 2;}else return 3;out(4);}", l(1), nil, "halt 2"},
		{"int main(int n){int s=0;while(n){n=n-1;if(n==3)continue;if(n==1)break;s=s*10+n;out(s);}return s;}", l(6), nil, "halt 542"},
		{"int main(){int i=0;int s=0;while(i<4){int k=0;while(1){k=k+1;if(k>i)break;if(k==2)continue;s=s+k;while(0)out(9);}i=i+1;}out(s);return s;}", nil, nil, "halt 6"},
		{"int main(){int i=0;while(1){while(1){i=i+1;if(!(i<=3))return i;break;}continue;}}", nil, nil, "halt 4"},
		{"int main(int n){while(n){n=n-1;while(n>3)n=n-1;break;out(9);}while(n){n=n-1;continue;out(8);}while(n==0){return n;}return 7;}", l(6), nil, "halt 0"},
		{"int main(){while(in());while(in())out(in()*4);return in()-1;}", nil, l(7, 8, 0, 1, 2, 3, 4, 0, 9), "halt 8"},
		{"int main(){while(0);while(0)while(1);return 2;}", nil, nil, "halt 2"},
		{"void f(int a){if(a)return;out(a);}int main(){f(1);f(0);out(2);f(3);return 1;}", nil, nil, "halt 1"},
		{"int g;int main(){g;3;g+1;in();&g;g&&in();!in();g=1;g=g+g;return g;}", nil, l(4), "halt 2"},
		{"int main(int n){while(n){int x;if(n==1)return x;x=n*7;n=n-1;}return 0;}", l(2), nil, "halt 14"},
		{"int main(int n){while(n){int x[2];if(n==1)return x[1];x[1]=n*7;n=n-1;}return 0;}", l(2), nil, "halt 14"},
		{"int main(int n){while(n){int x=n;n=n-1;if(n==0)return x;x=9;}return 0;}", l(2), nil, "halt 1"},
		{"int x;int main(){x=5;{int x=7;out(x);x=8;}{int x2=x;int*p=&x;*p=x2+1;}return x;}", nil, nil, "halt 6"},
		{"int x;int f(int x){x=x+1;return x;}int main(){x=4;return f(8)*10+x;}", nil, nil, "halt 94"},
		{"int main(){out(in()+1);out(in()-in());return in();}", nil, l(4, 9, 2, 1<<32+6), "halt 6"},
		{"int main(){}", nil, nil, "stuck"},
		{"int main(){while(1);}", nil, nil, "fuel"},
		{"int main(){while(1)out(in()+1);}", nil, l(5, 6), "fuel"},
		{"int main(){while(1){while(1){if(!!in())break;continue;}out(3);}}", nil, l(0, 0, 1, 2), "fuel"},
	}
}

func ofCalls() []Tale {
	return []Tale{
		{"int f(int n){int x=n;if(n)f(n-1);out(x);out(n);return 0;}int main(){return f(2);}", nil, nil, "halt 0"},
		{"int f(int n){int x=n;int*p=&x;if(n)f(n-1);*p=*p+10;out(x);return 0;}int main(){return f(2);}", nil, nil, "halt 0"},
		{"int f(int n,int*p){&n;n=n+1;*p=n;if(n<4)f(n,&n);return n;}int main(){int x;out(f(1,&x));return x;}", nil, nil, "halt 2"},
		{"int f(int a){if(a<2)return 1;return a*f(a-1);}int main(){return f(10);}", nil, nil, "halt 3628800"},
		{"int even(int n){if(n==0)return 1;return odd(n-1);}int odd(int n){if(n==0)return 0;return even(n-1);}int main(){return even(11)*10+odd(11);}", nil, nil, "halt 1"},
		{"int f(int n){if(n<2)return n;return f(n-1)+f(n-2);}int main(){return f(7);}", nil, nil, "halt 13"},
		{"int f(int a,char b,long c,int*d,int e,int g){*d=a+b+c;return e-g;}int main(){int x;int y=f(1,259,1<<20,&x,50,8);out(x);return y;}", nil, nil, "halt 42"},
		{"int f(int a,char b,long c,int*d,int e,int g){&a;&b;&c;&d;&e;&g;*d=a+b+c;return e-g;}int main(){int x;int y=f(1,259,1<<20,&x,50,8);out(x);return y;}", nil, nil, "halt 42"},
		{"int f(int n){out(n);return n;}int g(int a,int b,int c){return a*100+b*10+c;}int main(){return g(f(1),f(2),g(0,f(3),f(4)))+f(5)*(f(6)-f(7));}", nil, nil, "halt 149"},
		{"int f(int a,int b){return a-b;}int main(int a,int b){a=f(a,b)+a;b=f(b,a)-b;return f(f(a,a),f(b,b+f(a,b)))*10+f(b,a);}", l(7, 4), nil, "halt 180"},
		{"int g;int f(int a){g=g+a;return g;}int main(){g=1;return g*1000+f(2)*100+g*10+f(4);}", nil, nil, "halt 1337"},
		{"int g;long f(int a){g=g+a;return g;}int main(){g=1;return (g+1)+(f(2)+2)*(3+f(4))+(g+f(1))+(f(1)+g)+5;}", nil, nil, "halt 90"},
		{"long f(int n){out(n);return n;}long*p;long k[9];long*h(int n){out(n);return k+n;}int main(){out((f(1)+7)+(f(2)+8)+f(3));out(f(1)+(7+f(2)));out(8*f(4)+(f(5)+1)*2);*(f(3)+(h(2)+1))=h(1)+f(5)+2==h(3)+1+f(4);out(6==f(6));return h(5)[f(1)]+(0!=(f(2)<f(3)))*2;}", nil, nil, "halt 3"},
		{"int k[4];int g;int f(){g=g+1;return g;}int main(){k[f()]=f();k[f()-1]=g;int*p=k;p[f()-4]=7;*(f()-2+p)=9;return k[0]*1000+k[1]*100+k[2]*10+k[3];}", nil, nil, "halt 7239"},
		{"char f(int n){return n;}long h(char n){return n*n;}int main(){return h(f(200))+h(300);}", nil, nil, "halt 5072"},
		{"int*f(int*p,int n){if(n)return f(p+1,n-1);return p;}int main(){int a[3];a[0]=1;a[1]=2;a[2]=3;return *f(a,2)*10+*(f(a,1)-1);}", nil, nil, "halt 31"},
		{"int k[9];int*f(int n){if(n)return n-1+f(n-1);return k;}int main(){k[3]=4;return *f(3);}", nil, nil, "halt 4"},
		{"int k[9];int f(int n){out(n);return n;}int main(){k[6]=4;return *(f(1)+(f(2)+(f(3)+k)))+*((f(0)+*(f(0)+k))*0+(f(6)+k));}", nil, nil, "halt 8"},
		{"int k[9];int f(int*p,int*q){return *p*10+*q;}int main(int a){int i=0;while(i<9){k[i]=i;i=i+1;}int*p=a+k;p=a+p-2;return f(a+p,1+a+(a-1)+k)*100+f(a+(a+(a+p-3)),a+1+k);}", l(2), nil, "halt 4453"},
		{"int f(int n){return n;}int main(int a){int b=a;a=b-f(a)*(b-f(2)*a);b=f(a)-(a-b*f(b));return a*100+b;}", l(3), nil, "halt 1209"},
	}
}

func ofLogic() []Tale {
	list := []Tale{
		{"int main(int a){return !a*100+!!a*10+!(a<3);}", l(0), nil, "halt 100"},
		{"int main(int a,int b){a=a&&b;b=a||b;return a*10+b;}", l(5, 0), nil, "halt 0"},
		{"int main(int a,int b){a=b&&a;b=!(b||a);return a*10+b;}", l(5, 2), nil, "halt 10"},
		{"int main(){int i=0;while(i<3){int x=i&&x*10+i;if(i)out(x);i=i+1;}return 0;}", nil, nil, "halt 0"},
		{"int main(int a,int b){return (a<b)*100000+(a<=b)*10000+(a>b)*1000+(a>=b)*100+(a==b)*10+(a!=b);}", l(-3, 2), nil, "halt 110001"},
		{"int main(int a,int b){return (a<2)*100000+(2<=a)*10000+(a>2)*1000+(2>=a)*100+(a==2)*10+(2!=a);}", l(2, 2), nil, "halt 10110"},
		{"int k[2];int main(int a){int*p=k;int*q=0;if(p)out(1);if(!q)out(2);if(p&&!q||a)out(3);while(q||p==k){p=p+1;q=k;if(a<4)break;a=a-1;}return (p==q)*10+(q!=0);}", l(4), nil, "halt 1"},
		{"int k[2];int main(int a){int*p=k;while(p==k&&a){p=p+1;}return (p==k+1)*10+(0==p);}", l(4), nil, "halt 10"},
	}
	three := "int f(int a){out(a);return a;}int main(int a,int b,int c){out(f(a)&&f(b)||f(c));out(f(a)||f(b)&&f(c));out(!(f(a)&&!f(b)));if(f(a)&&(f(b)||f(c)))out(7);if(!(f(a)||!(f(b)&&f(c))))out(8);while(!(!f(a)||!f(b))){a=a-1;b=b-1;}return (a||b)+(b&&c)*2+!(a&&b&&c)*4;}"
	for n, end := range []string{"halt 4", "halt 5", "halt 5", "halt 5", "halt 4", "halt 5", "halt 7", "halt 7"} {
		list = append(list, Tale{three, l(int64(n%2), int64(n/2%2*2), int64(n/4)), nil, end})
	}
	return list
}

func ofNumbers() []Tale {
	return []Tale{
		{"int main(int a,long b){out(-a);out(~a);out(a+b);out(a-b);out(a*b);out(a/b);out(a%b);out(a&b);out(a|b);out(a^b);out(a<<3);out(b>>2);return 3-a;}", l(-7, 1<<40+3), nil, "halt 10"},
		{"char c;char f(long a){return a*100;}int main(int a){c=f(a);out(c);out(~c);out(-c);c=c+(char)a;return (int)4294967298+c;}", l(3), nil, "halt 49"},
		{"int main(char a,int b,long c,char d,int e,long f){&d;&e;&f;out(a);out(b);out(c);out(d);out(e);out(f);return a+d;}", l(200, 1<<31, 1<<40, 300, 1<<32+5, -1<<63), nil, "halt -12"},
		{"long main(long a){a=a+9223372036854775807;out(a);a=a*(-9223372036854775807-1);out(a);return a>>63;}", l(5), nil, "halt 0"},
		{"int main(int a){a=a+2147483647;out(a);a=a*a;out(a);a=a-1;out(a/(-1));return a%7;}", l(6), nil, "halt 3"},
		{"int main(int a){long x=a;x=x*8+x*3-x*1+4294967296*x;out(x);x=8-x/8;out(x%8);return x>>30;}", l(-9), nil, "halt 4"},
		{"int main(int a,int b){out(a<<(b&31));out(a>>(b&7));out(1<<b);out((char)(a<<4));return (long)a<<b+20;}", l(77, 9), nil, "halt -1610612736"},
		{"struct p{char c;int i;char d;long l;};int main(){out(sizeof(struct p));out(sizeof(struct p[3]));out(sizeof(int*));out(sizeof(char[7]));out(sizeof(long)<<29);return sizeof(int)*1073741824;}", nil, nil, "halt 0"},
		{"int main(int a){a=(a+1)*(a+2)-(a+3)*(a+4)+((a+5)*(a+6)-(a+7)*((a+8)*(a-(a-(a-1)))));return a;}", l(10), nil, "halt -2564"},
		{"int main(){return 1/0;}", nil, nil, "stuck"},
		{"int main(int a){out(a);return 5%a;}", l(0), nil, "stuck"},
		{"int main(int a){return 1<<a;}", l(64), nil, "stuck"},
	}
}

// front of the tales about places.
const placesFront = "struct q{char c;int i;};struct s{char c;int a[3];struct s*n;struct q q;long l;};int g;int h[4];struct s t;struct s u[2];"

// ofPlaces has each of its tales about globals, and about variables that hide them.
func ofPlaces() []Tale {
	var list []Tale
	for _, c := range []struct{ text, end string }{
		{"int*p=&g;*p=3;return g;", "halt 3"},
		{"int*p=h;p[3]=3;p=p+2;*p=2;p=p-1;*p=1;return h[1]+h[2]*10+h[3]*100;", "halt 321"},
		{"int*p=&h[3];p[-1]=5;p[-2]=6;return *(&h[1]+1)*10+*(p-2);", "halt 56"},
		{"int*p=t.a;p[2]=5;p[0]=1;return t.a[2]*10+*t.a;", "halt 51"},
		{"int*p=&t.a[1];*p=5;return (&t)->a[1];", "halt 5"},
		{"struct s*p=&t;p->c=200;p->l=1<<20;p->q.i=9;p->n=p;out(t.c);out(t.l);return p->n->n->q.i;", "halt 9"},
		{"struct q*p=&t.q;p->i=9;p->c=300;out(t.q.c);return t.q.i;", "halt 9"},
		{"struct s*p=u;p=p+1;p->c=1;(*p).l=2;return u[1].c+u[1].l*10;", "halt 21"},
		{"u[1].a[2]=7;u[1].n=u;u[1].n->q.c=8;return u[1].a[2]*10+u->q.c;", "halt 78"},
		{"int i=1;long j=2;u[i].a[j]=7;u[i-1].a[j-1]=3;u[i].a[i+1]=u[i].a[j]+1;(u+i)->a[j-2]=9;return u[1].a[2]*100+u[0].a[1]*10+*u[1].a;", "halt 839"},
		{"int i=2;long j=1;h[i+1]=4;h[j]=3;h[3-i]=h[i+j]+h[j];out(*(h+i+1));return h[i-j];", "halt 7"},
		{"h[0]=1;h[h[0]]=2;h[h[h[0]]]=3;h[h[0]+h[1]]=h[h[h[0]]]*h[1];return h[3]*10+h[h[1]];", "halt 63"},
		{"int x;int*p=&x;int**q=&p;**q=6;return x;", "halt 6"},
		{"int*p[2];p[1]=h;p[1][2]=6;return *(p[1]+2);", "halt 6"},
		{"char c[9];long i=3;c[i]=1;c[i+1]=2;c[i-1]=3;c[8]=4;char*p=c+8;return p[-4]*1000+p[i-8]*100+*(p-6)*10+*p;", "halt 2134"},
		{"h[3]=4;int i=1;long j=2;return *(i+(j+h))+*(1+(1+(h+1)))*10;", "halt 44"},
		{"u[1].a[1]=4;return *(1+(1+u)->a);", "halt 4"},
		{"h[1]=513;char*p=(char*)(h+1);out(p[0]);out(p[1]);p[2]=1;return h[1];", "halt 66049"},
		{"long x=-2;int*p=(int*)&x;out(*p);out(p[1]);p[0]=5;return x>>32;", "halt -1"},
		{"return *(h+4-4)+*(h-4+4)+*(4+(h-4))+h[(long)1<<62];", "halt 0"},
		{"(&(*u).q)->i=3;return (*&u[0]).q.i;", "halt 3"},
		{"long x[3];long*p=x+2;*p=5;p[-1]=p-1==&x[1];return x[1]*10+x[2];", "halt 15"},
		{"void*p=(void*)h;int*q=(int*)p;q[1]=4;return ((int*)p)[1];", "halt 4"},
		{"return h[4];", "stuck"},
		{"h[-1]=1;return 2;", "stuck"},
		{"struct s*p=0;return p->a[1];", "stuck"},
		{"return *(int*)((char*)h+3);", "stuck"},
	} {
		list = append(list, Tale{placesFront + "int main(){" + c.text + "}", nil, nil, c.end})
		list = append(list, Tale{placesFront + "int main(){int g;int h[4];struct s t;struct s u[2];h[0]=0;u[0].c=0;" + c.text + "}", nil, nil, c.end})
	}
	return list
}

func ofPointers() []Tale {
	return []Tale{
		{"struct n{int v;struct n*next;};struct n a[4];int main(){int i=0;while(i<3){a[i].v=i+1;a[i].next=a+(i+1);i=i+1;}struct n*p=a;int s=0;while(p){s=s*10+p->v;p=p->next;}return s;}", nil, nil, "halt 1230"},
		{"int*g;void f(int n){int x=n;int*p=&x;if(n)f(n-1);else g=p;*g=*g+1;out(*g);if(n)g=p;}int main(){f(0);return 1;}", nil, nil, "halt 1"},
		{"int f(int*p,int*q){return p==q;}int main(){int x[2];return f(x,&x[0])*10+f(x,x+1);}", nil, nil, "halt 10"},
		{"int f(int*p){return p==0;}int main(){int x;return f(0)*10+f(&x);}", nil, nil, "halt 10"},
		{"int*f(int a){if(a)return 0;return g;}int g[2];int main(){return (f(1)==0)*10+(f(0)==g);}", nil, nil, "halt 11"},
		{"int*f(){int x;return &x;}int main(){int*p=f();out(p==p);out(p!=0);return p+1==p;}", nil, nil, "halt 0"},
		{"int*f(){int x;x=3;return &x;}int main(){int*p=f();return *p;}", nil, nil, "stuck"},
		{"int g[3];int*h;int main(){h=g;long x=*(long*)&h;x=x+4;int*r=*(int**)&x;*r=3;r[1]=x==*(long*)&h;return g[1]*10+g[2]+!!x*100;}", nil, nil, "halt 130"},
		{"int main(){int g[3];int*h;h=g;long x=*(long*)&h;x=4+x;int*r=*(int**)&x;r[-1]=7;*(1+r)=8;return (x!=0)*100+g[0]*10+g[2];}", nil, nil, "halt 178"},
		{"void f(int*p,int*q){int x=*p;*p=*q;*q=x;}int main(int a,int b){int i=0;f(&a,&b);while(i<a){f(&a,&i);a=a+5;i=i+1;}return a*100+b*10+i;}", l(2, 4), nil, "halt 525"},
		{"void s(long*p,long n){long i=1;while(i<n){long x=p[i];long j=i;while(j>0&&p[j-1]>x){p[j]=p[j-1];j=j-1;}p[j]=x;i=i+1;}}int main(){long k[5];int i=0;while(i<5){k[i]=in();i=i+1;}s(k,5);i=0;while(i<5){out(k[i]);i=i+1;}return k[2];}", nil, l(5, -3, 9, 0, 2), "halt 2"},
	}
}

// ofUnknowns has what is Undef handed on.
func ofUnknowns() []Tale {
	var list []Tale
	front := "int g[2];int f(int a){return 0;}int fp(int*p){&p;return 0;}int fu(){int x;return x;}int*fw(){int*p;return p;}struct s{int a;int b;};int main(){char c;int x;long y;int*p;struct s*q;int z[2];out(5);"
	for _, text := range []string{"x;", "p;", "z[1];", "(int)x;", "(char*)p;", "&*p;", "&q->a;", "x=c;", "y=x;", "p=p;", "g[1]=x;", "z[1]=z[0];", "f(x);", "fp(p);", "fu();", "x=fu();", "p=fw();", "fp(fw());", "0&&x;", "1||x;", "!(0&&1/x);"} {
		list = append(list, Tale{front + text + "out(6);return 7;}", nil, nil, "halt 7"})
	}
	for _, text := range []string{"out(x);", "return x;", "x+1;", "if(x);", "while(z[0]);", "g[x];", "*p;", "*p=3;", "q->b;", "p+1;", "-y;", "x==x;", "1&&x;", "fu()+1;", "x=fu()*2;"} {
		list = append(list, Tale{front + text + "out(6);return 7;}", nil, nil, "stuck"})
	}
	return list
}
