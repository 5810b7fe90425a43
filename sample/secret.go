package sample

// Secrets are sources whose main has an int that is public and two longs that are secret: in each way in which a value can be used that is in no leak.
func Secrets() []string {
	return mains("struct r{char c;long l;};int g;long h[4];struct r t;long f(long a){&a;return a*2;}int d(int a,char b,int k){if(k)return d(b,a,k-1)+1;return a-b;}long main(public int n,long s,long z){", []string{
		"return s*3+(s==7);", "return s*8-s*1+2*s*0+s*1024*z;", "return (s+1)+(z-2)+3;", "return 5-s+(9-z);", "return -s^(~s>>3)&!s;", "out(s);return s<<(z&31);", "return z>>(s&63);", "return (s<<3)+(z>>5);",
		"return !s+!!s+(s<z)+(s<=z)+(s>3)+(3>=s)+(0==z)+(s!=z);", "return !(s<z)+((s==3)==0)+(0!=(z>s))+!!!(s<=z);", "return (char)s+(int)z;", "return s&255|z^4294967296;", "int i=s;char c=z;long w=i*c;return w|c;",
		"g=s;return g;", "h[1]=s;h[2]=h[1]+z;return h[n&3];", "t.c=s;t.l=z;return t.l-t.c;", "int x=s;int*p=&x;*p=*p+z;return x;", "long a[3];a[0]=s;a[1]=z;a[2]=a[0]*a[1];return a[2];", "struct r u;u.l=s;u.c=u.l;struct r*p=&u;p->l=p->c-z;return u.l;",
		"return f(s)+f(z);", "return d(s,z,1);", "out(in()+s);return in()*z;", "int i=0;long w=s;while(!(i>=4)){w=w*31+(z>>i);i=1+i;}return w;", "if(!(n<=1||9<=n))out(s);else out(z);return s;", "return n&&1||s;", "return !(n&&!(n>9))+s;",
		"return h[n&3]*s+n/(n|1)+n/8+n%2;", "return s*(n%7);", "int m=-(s<z);return s&m|z&~m;", "return s-s*(z==0);", "s=z;z=s+1;return s;", "&s;&z;s=z*3;return s;", "return (n||s)+n;",
		"long*p=h;p=(s&0)+p;return *p+s;", "return *(n+h-n)^s;", "return h+(n&1)==h;", "while(n){n=n-1;if(n==2)continue;if(!(n!=1))break;out(s);}return z;", "while(1){s=s*z+n;out(s);}",
	})
}

// Shown are sources whose main has an int that a leak tells.
func Shown() []string {
	return mains("int h[2];int f(){return 1;}int main(int s){", []string{
		"if(s)return 1;return 2;", "if(!s)return 1;return 2;", "while(s)return 1;return 2;", "while(!(s<1))return 1;return 2;", "return s&&1;", "return !(s||0);", "return 1&&s;", "return s/3;", "return s/8;", "return s/1;", "return 7%(s+1);",
		"return h[s!=0];", "h[s==0]=1;return 1;", "int a[2];a[s&1]=3;return 2;", "if(!s)f();return 1;", "s/3;return 1;", "h[s!=0];return 1;", "s&&1;return 1;",
	})
}

// mains are sources with one front, each with a body of its main.
func mains(front string, bodies []string) []string {
	var list []string
	for _, body := range bodies {
		list = append(list, front+body+"}")
	}
	return list
}
