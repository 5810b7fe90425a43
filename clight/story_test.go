package clight

import "testing"

const records = "struct s{int a;int b;};"

// TestStatementSteps has each kind of statement.
func TestStatementSteps(t *testing.T) {
	stories(t, []tale{
		{"int main(){return 7;}", nil, nil, "... halt 7"},
		{"int main(){;return 7;}", nil, nil, ".... halt 7"},
		{"int main(){{}{;}{{}}return 7;}", nil, nil, "........ halt 7"},
		{"int main(){int x;return 7;}", nil, nil, ".... halt 7"},
		{"int main(){int x[3];struct s*p;return 7;}" + records, nil, nil, "..... halt 7"},
		{"int main(){int x=3;return x;}", nil, nil, "..... halt 3"},
		{"int main(){int x;x=3;return x;}", nil, nil, "...... halt 3"},
		{"int main(){int x;((x))=3;return x;}", nil, nil, "...... halt 3"},
		{"int main(){int x=3;&x;return x;}", nil, nil, "... a1+0 ..... a1+0 halt 3"},
		{"int main(){int x;&x;x=3;return x;}", nil, nil, "........ a1+0 .. a1+0 halt 3"},
		{"int g;int main(){g=5;return g;}", nil, nil, ".... a1+0 .. a1+0 halt 5"},
		{"int main(){if(1)return 2;return 3;}", nil, nil, "... b1 .. halt 2"},
		{"int main(){if(0)return 2;return 3;}", nil, nil, "... b0 .. halt 3"},
		{"int main(){if(1)return 2;else return 3;}", nil, nil, "... b1 .. halt 2"},
		{"int main(){if(0)return 2;else return 3;}", nil, nil, "... b0 .. halt 3"},
		{"int main(){if(0){return 2;}else{return 3;}}", nil, nil, "... b0 ... halt 3"},
		{"int main(){if(1)if(0);else;return 3;}", nil, nil, "... b1 .. b0 ... halt 3"},
		{"int main(){while(0);return 3;}", nil, nil, ".... b0 .. halt 3"},
		{"int main(){while(1)break;return 3;}", nil, nil, ".... b1 ... halt 3"},
		{"int main(int a){while(a){a=a-1;continue;out(9);}return a;}", l(2), nil, ".... b1 ........ b1 ........ b0 .. halt 0"},
		{"int main(int a){while(a)a=a-1;return a;}", l(2), nil, ".... b1 ...... b1 ...... b0 .. halt 0"},
		{"int main(){while(1){while(1)break;break;}return 3;}", nil, nil, ".... b1 .... b1 .... halt 3"},
		{"int main(int a){while(a){a=0;while(1){if(1)break;out(9);}continue;out(8);}return 3;}", l(1), nil, ".... b1 ...... b1 ... b1 .... b0 .. halt 3"},
		{"int main(){while(1)while(1)return 3;}", nil, nil, ".... b1 ... b1 .. halt 3"},
		{"int main(){{{return 3;}out(1);}out(2);return 4;}", nil, nil, "..... halt 3"},
		{"int main(){out(3);return 4;}", nil, nil, "... o3 .. halt 4"},
		{"int main(int a){a;a;return 4;}", l(1), nil, "....... halt 4"},
		{"int g;int main(){g;return 4;}", nil, nil, "... a1+0 .. halt 4"},
		{"int g[2];int main(){g;return 4;}", nil, nil, "..... halt 4"},
		{"void f(){}int main(){f();return 4;}", nil, nil, "... c0 ... halt 4"},
		{"void f(){return;out(1);}int main(){f();return 4;}", nil, nil, "... c0 .... halt 4"},
		{"int main(){}", nil, nil, ". stuck"},
	})
}

// TestExpressionSteps has each kind of expression.
func TestExpressionSteps(t *testing.T) {
	stories(t, []tale{
		{"int main(){return (((7)));}", nil, nil, "... halt 7"},
		{"int main(){return 0x7fffffff;}", nil, nil, "... halt 2147483647"},
		{"long main(){return 9223372036854775807;}", nil, nil, "... halt 9223372036854775807"},
		{"int main(int a){return a;}", l(7), nil, "... halt 7"},
		{"int main(){return in();}", nil, l(6), "... i6 halt 6"},
		{"int main(){return sizeof(long[5]);}", nil, nil, "... halt 40"},
		{"int main(int a){return -~!a;}", l(0), nil, "...... halt 2"},
		{"int main(int a){return a+2*a;}", l(5), nil, "....... halt 15"},
		{"int main(int a){return (a+2)*a;}", l(5), nil, "....... halt 35"},
		{"int main(int a){return (char)a;}", l(300), nil, ".... halt 44"},
		{"int main(int a){return (int)(char)(long)a;}", l(300), nil, "...... halt 44"},
		{"int main(int a){return a==5;}", l(5), nil, "..... halt 1"},
		{"int g[4];int main(){g[2]=7;return g[2];}", nil, nil, "...... a1+8 .... a1+8 halt 7"},
		{"struct s g;int main(){g.b=7;return g.b;}" + records, nil, nil, "..... a1+4 ... a1+4 halt 7"},
		{"struct s g;int main(){g.a=7;return g.a;}" + records, nil, nil, "..... a1+0 ... a1+0 halt 7"},
		{"struct s g;int main(){struct s*p=&g;p->b=7;return p->b;}" + records, nil, nil, "........ a1+4 ... a1+4 halt 7"},
		{"struct s g;int main(){struct s*p=&g;p->a=7;return p->a;}" + records, nil, nil, "........ a1+0 ... a1+0 halt 7"},
		{"struct s g[3];int main(){g[1].b=7;return (*(g+1)).b;}" + records, nil, nil, "....... a1+12 ...... a1+12 halt 7"},
		{"int g;int main(){int*p=&g;*p=7;return *p;}", nil, nil, "........ a1+0 ... a1+0 halt 7"},
		{"int g;int main(){return *&g;}", nil, nil, "..... a1+0 halt 0"},
		{"long g[3];int main(){long*p=g;return *(1+p)+*(p+1);}", nil, nil, "......... a1+8 .... a1+8 halt 0"},
		{"long g[3];int main(){return *(g+2-1);}", nil, nil, "........ a1+8 halt 0"},
		{"int f(int a){return a;}int main(){return f(4);}", nil, nil, ".... c0 ... halt 4"},
		{"int f(int a,int b){return a-b;}int main(){return f(in(),in());}", nil, l(8, 3), ".... i8 . c0 i3 ..... halt 5"},
		{"void f(){out(1);}int main(){f();return 0;}", nil, nil, "... c0 ... o1 .. halt 0"},
		{"int main(int a){return a/2%3;}", l(7), nil, "...... d7/2 . d3/3 halt 0"},
	})
}

func TestLogicSteps(t *testing.T) {
	stories(t, []tale{
		{"int main(int a){return a&&in();}", l(0), l(5), ".... b0 halt 0"},
		{"int main(int a){return a&&in();}", l(1), l(5), ".... b1 . b1 i5 halt 1"},
		{"int main(int a){return a&&in();}", l(-1), l(0), ".... b1 . b0 i0 halt 0"},
		{"int main(int a){return a||in();}", l(1), l(5), ".... b1 halt 1"},
		{"int main(int a){return a||in();}", l(0), l(5), ".... b0 . b1 i5 halt 1"},
		{"int main(int a){return a||in();}", l(0), l(0), ".... b0 . b0 i0 halt 0"},
		{"int main(int a){return a&&a||a&&a;}", l(0), nil, "..... b0 b0 .. b0 b0 halt 0"},
		{"int main(int a){if(a&&a)return 5;return 6;}", l(3), nil, ".... b1 . b1 b1 .. halt 5"},
		{"int main(int a){if(!a)return 5;return 6;}", l(3), nil, ".... b0 .. halt 6"},
		{"int g;int main(){int*p=&g;return p&&!p||p;}", nil, nil, "........ b1 .. b0 b0 . b1 halt 1"},
	})
}

// TestOrder has events and leaks within one another: what stands to the left comes first, operands ahead of operations.
func TestOrder(t *testing.T) {
	stories(t, []tale{
		{"int main(){return in()-in()*in();}", nil, l(9, 2, 3), ".... i9 .. i2 . i3 halt 3"},
		{"int g[3];int main(){g[in()]=in();return 0;}", nil, l(1, 2), "..... i1 . a1+4 i2 .. halt 0"},
		{"int g[3];int main(){g[0]=g[1]+g[2];return 0;}", nil, nil, "......... a1+4 ... a1+8 a1+0 .. halt 0"},
		{"int g[3];int main(){return g[g[1]+2];}", nil, nil, "........ a1+4 . a1+8 halt 0"},
		{"int*g;int main(){g=in()+g;return 0;}", nil, l(0), "..... i0 . a1+0 a1+0 .. halt 0"},
		{"int g;int main(){int*p=&g;int i=*(in()+p);return i;}", nil, l(0), "........ i0 . a1+0 .. halt 0"},
		{"int main(){return in()/in();}", nil, l(7, 2), ".... i7 . d7/2 i2 halt 3"},
		{"int g;int f(){g=g+1;return g;}int main(){return f()*10+f();}", nil, nil, "..... c0 ..... a1+0 . a1+0 .. a1+0 .. c0 ..... a1+0 . a1+0 .. a1+0 halt 12"},
		{"int f(int a){out(a);return a+1;}int main(){return f(f(1));}", nil, nil, "..... c0 ... o1 .... c0 ... o2 .... halt 3"},
	})
}
