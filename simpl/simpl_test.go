package simpl

import (
	"fmt"
	"reflect"
	"strings"
	"testing"

	"plumbob/api"
	"plumbob/ast"
	"plumbob/check"
)

// compile makes a text a program that is typed.
func compile(t *testing.T, text string) *check.Program {
	t.Helper()
	tree, at, e := ast.Parse(text)
	if e != api.OK {
		t.Fatalf("%s: %d at %v", text, e, at)
	}
	p, at, e := check.Check(tree)
	if e != api.OK {
		t.Fatalf("%s: %d at %v", text, e, at)
	}
	return p
}

// story tells all parameters and variables: those that are held apart behind a +, the others behind a -.
func story(l []Var) string {
	var told []string
	for _, v := range l {
		mark := "-"
		if v.Apart {
			mark = "+"
		}
		told = append(told, mark+v.Function+" "+v.Name+" "+v.Type)
	}
	return strings.Join(told, ", ")
}

// holds asks all calls about a program whose Vars are known.
func holds(t *testing.T, text string, p *check.Program, want []Var) {
	t.Helper()
	if got := Vars(p); len(got)+len(want) > 0 && !reflect.DeepEqual(got, want) {
		t.Errorf("P9.1: %s: Vars: %s, want %s", text, story(got), story(want))
	}
	blocks := map[string]int{}
	for _, v := range want {
		if isApart, e := Apart(p, v.Function, v.Name); isApart != v.Apart || e != api.OK {
			t.Errorf("P9.1: %s: Apart(%s, %s): %v, %d, want %v", text, v.Function, v.Name, isApart, e, v.Apart)
		}
		if !v.Apart {
			blocks[v.Function]++
		}
	}
	for _, f := range p.Tree().Functions() {
		if n, e := Blocks(p, f); n != blocks[f] || e != api.OK {
			t.Errorf("P9.1: %s: Blocks(%s): %d, %d, want %d", text, f, n, e, blocks[f])
		}
	}
}

// read makes a story what it tells.
func read(story string) []Var {
	var l []Var
	for told := range strings.SplitSeq(story, ", ") {
		if told != "" {
			words := strings.SplitN(told[1:], " ", 3)
			l = append(l, Var{words[0], words[1], words[2], told[0] == '+'})
		}
	}
	return l
}

// tales holds texts against what is told of them.
func tales(t *testing.T, l [][2]string) {
	t.Helper()
	for _, c := range l {
		holds(t, c[0], compile(t, c[0]), read(c[1]))
	}
}

const records = "struct s{int a;char*b;long c[3];};struct r{struct s x;struct s y[2];struct r*n;};"

func TestExample(t *testing.T) {
	text := "int main(int a){ int x; int *p = &x; int y[2]; return 0; }"
	p := compile(t, text)
	want := []Var{{"main", "a", "int", true}, {"main", "x", "int", false}, {"main", "p", "int*", true}, {"main", "y", "int[2]", false}}
	holds(t, text, p, want)
	if n, e := Blocks(p, "main"); n != 2 || e != api.OK {
		t.Errorf("P9.1: Blocks(main): %d, %d", n, e)
	}
}

// TestOrder: function by function, the parameters first, then the variables as they stand in the text, whatever stands around them.
func TestOrder(t *testing.T) {
	tales(t, [][2]string{
		{"int f(int z,char y){long x;int w;return 0;}void h(long*v){char z;}int main(int b,long a){int z;int b2;return 0;}",
			"+f z int, +f y char, +f x long, +f w int, +h v long*, +h z char, +main b int, +main a long, +main z int, +main b2 int"},
		{"int main(int m){int z;{int y;{int x;}int w;{{{int v;}}int u;}}int t;return 0;}",
			"+main m int, +main z int, +main y int, +main x int, +main w int, +main v int, +main u int, +main t int"},
		{"int main(int m){while(m){int z;while(m){int y;continue;int x;}break;int w;}if(m){int v;}else{int u;}if(m){int t;}else if(m){int s;}else{int r;}return 0;}",
			"+main m int, +main z int, +main y int, +main x int, +main w int, +main v int, +main u int, +main t int, +main s int, +main r int"},
		{"int main(){return 0;int z;{return 1;int y=2;}int x;return x;}", "+main z int, +main y int, +main x int"},
		{"int main(){int b=1;int a=b;out(a);int c;c=a;long d=in();return d;}", "+main b int, +main a int, +main c int, +main d long"},
		{"int g2;struct s{int i;};int main(){int b;return 0;}int g1;int f(int a){return a;}struct r{int j;};void e(){struct r c;}", "+main b int, +f a int, -e c struct r"},
		{"int zz(public int b,int c,public long a){return b;}int main(public int x){return x;}", "+zz b int, +zz c int, +zz a long, +main x int"},
	})
}

// TestTypes: what is scalar may be held apart, a struct and an array never; types are told as chapter 6 tells them.
func TestTypes(t *testing.T) {
	tales(t, [][2]string{
		{"int f(char a,int b,long c,char*d,int*e,long*g){return 0;}int main(){return 0;}", "+f a char, +f b int, +f c long, +f d char*, +f e int*, +f g long*"},
		{records + "int f(struct s*a,struct r**b,void*c,void****d){return 0;}int main(){return 0;}", "+f a struct s*, +f b struct r**, +f c void*, +f d void****"},
		{"int main(){char a;int b;long c;char*d;int**e;long***f;void*g;void**h;return 0;}", "+main a char, +main b int, +main c long, +main d char*, +main e int**, +main f long***, +main g void*, +main h void**"},
		{"int main(){char a[1];int b[2];long c[3];char*d[4];int**e[5];void*f[6];return 0;}", "-main a char[1], -main b int[2], -main c long[3], -main d char*[4], -main e int**[5], -main f void*[6]"},
		{records + "int main(){struct s a;struct s*b;struct s**c;struct s d[2];struct s*e[3];struct r f;struct r g[1];return 0;}",
			"-main a struct s, +main b struct s*, +main c struct s**, -main d struct s[2], -main e struct s*[3], -main f struct r, -main g struct r[1]"},
		// An array of arrays is one of structs with arrays alone.
		{"struct row{int a[3];};struct rows{struct row r[4];};int main(){struct row a[5];struct rows b[6];struct rows*c[7];return 0;}", "-main a struct row[5], -main b struct rows[6], -main c struct rows*[7]"},
		// However they are written.
		{"struct  s\n{char c;} ;int main(){int * * a;struct/*a*/s//b\n*b;struct\ts c [ 0x1F ] ;char *\n* d[10];return 0;}", "+main a int**, +main b struct s*, -main c struct s[31], -main d char**[10]"},
	})
}

// TestTaken: an address is taken by & and a name alone, parentheses aside.
func TestTaken(t *testing.T) {
	tales(t, [][2]string{
		{"int main(){int x;&x;return 0;}", "-main x int"},
		{"int main(){int x;&(x);return 0;}", "-main x int"},
		{"int main(){int x;&(((x)));return 0;}", "-main x int"},
		{"int main(){int x;(&((x)));return 0;}", "-main x int"},
		{"int main(char a,int b,long c){&a;&b;&c;return 0;}", "-main a char, -main b int, -main c long"},
		{"int f(int*p,int*q){int**r=&p;return **r;}int main(){return 0;}", "-f p int*, +f q int*, +f r int**"},
		{records + "int f(struct s*p,struct s*q){struct s**r=&(q);return 0;}int main(){return 0;}", "+f p struct s*, -f q struct s*, +f r struct s**"},
		{records + "int main(){struct s x;struct s*p=&x;struct s**q=&p;return 0;}", "-main x struct s, -main p struct s*, +main q struct s**"},
		{"int main(){char a;int b;long c;char*d;void*e;&a;&b;&c;&d;&e;return 0;}", "-main a char, -main b int, -main c long, -main d char*, -main e void*"},
		{"int main(){int x;int*p;int**q;int***r;p=&x;q=&p;r=&q;return 0;}", "-main x int, -main p int*, -main q int**, +main r int***"},
		{"int main(){void*p=(void*)&p;return 0;}", "-main p void*"},
		{"int main(){int x=*&x;return 0;}", "-main x int"},
	})
}

// TestNotTaken: the address of a field, an element or a target is not that of the name in it; nor is another operator one that takes it.
func TestNotTaken(t *testing.T) {
	tales(t, [][2]string{
		{records + "int main(){struct s x;int*p=&x.a;char**q=&(x).b;long*r=&x.c[1];return 0;}", "-main x struct s, +main p int*, +main q char**, +main r long*"},
		{records + "int f(struct s*p){&p->a;&(*p).a;&p->c[2];&p[1];&p[1].a;&*p;return 0;}int main(){return 0;}", "+f p struct s*"},
		{records + "int main(){struct r x;struct r*p;&x.x.a;&x.y[1];&p->n->n;&p->x;p=&x;return 0;}", "-main x struct r, +main p struct r*"},
		{"int f(int*p,int**q,int i){&*p;&(*p);&p[0];&p[i];&**q;&*q;&q[i][i];&*(p+i);return 0;}int main(){return 0;}", "+f p int*, +f q int**, +f i int"},
		{"int main(){int x[3];int i=0;int*p=x;int*q=x+1;int*r=&x[i];&*x;*x=i;x[i]=1;return x==p;}", "-main x int[3], +main i int, +main p int*, +main q int*, +main r int*"},
		{"int*f(int*p){return p;}int main(){int x[3];int*y;return f(x)==f(y);}", "+f p int*, -main x int[3], +main y int*"},
		{"int main(int a){int b=a&a;b=a&(b);if(a&&b)b=1;b=a & b;return a&b&a;}", "+main a int, +main b int"},
		{"int main(int a){a=-a;a=~a;a=!a;out(a);a=a*a+a;a=(char)a;long b=a;while(a)a=a-1;if(b)b=1;return a||b;}", "+main a int, +main b long"},
		{"int main(int a){int*p=0;*p=a;p[a]=1;p=p+a;return *p;}", "+main a int, +main p int*"},
		{"int main(int a){a;return sizeof(int)+sizeof(int[3]);}", "+main a int"},
	})
}

// TestTakenAnywhere: in whatever part of a statement or an expression an address is taken, it tells of the variable in all its function.
func TestTakenAnywhere(t *testing.T) {
	front := "int g;int h(int a,int*p){return a;}void v(int*p){}"
	rest := "+h a int, +h p int*, +v p int*, "
	for _, where := range []string{
		"&x;", "{&x;}", "{{;{&x;}}}", "*&x=1;", "*(&x)=1;", "g=*&x;", "int z=*&x;", "int*z=&x;", "out(*&x);",
		"if(&x);", "if(!&x);", "if(0)&x;", "if(1);else &x;", "if(1);else if(2);else{&x;}",
		"while(&x)break;", "while(0)&x;", "while(1){break;&x;}", "while(1){while(0){&x;}continue;}", "return *&x;", "return 1;&x;",
		"h(1,&x);", "h(*&x,0);", "v(&x);", "h(h(1,&x),0);", "g=h(1,0)+h(2,&x);",
		"-*&x;", "~*&x;", "!&x;", "*&*&x;", "&*&x;", "(char)*&x;", "(char*)&x;", "(long)(char)*&x;", "(void*)(&x);",
		"&x==&x;", "&x==0;", "0!=&x;", "1&&&x;", "&x||1;", "0&&(1||&x);", "&x+1;", "1+&x;", "&x-1;", "*(&x+0);",
		"1+2*(3-*&x);", "*&x<<1;", "1>>*&x;", "*&x<2;", "1<=*&x;", "*&x%1;", "1&*&x;", "1|*&x;", "*&x^1;", "1/ *&x;",
		"(&x)[0];", "(&x)[0]=1;", "g=(&x)[g];", "int a[2];a[*&x]=1;", "int a[2];a[(&x)[0]]=1;", "int a[2];&a[*&x];",
	} {
		for _, c := range []struct{ text, want string }{
			{"int main(){int y;int x;" + where + "return x;}", "+main y int, -main x int"},
			{"int main(){int y;return 0;{int x;y=x;{" + where + "}y=x;}return y;}", "+main y int, -main x int"},
			{"int main(int x,int y){x=y;" + where + "return 0;}", "-main x int, +main y int"},
		} {
			p := compile(t, front+c.text)
			// A part may declare one more.
			var l []Var
			for _, v := range Vars(p) {
				if v.Name != "z" && v.Type != "int[2]" {
					l = append(l, v)
				}
			}
			if got := story(l); got != rest+c.want {
				t.Errorf("P9.1: %s: %s, want %s", c.text, got, rest+c.want)
			}
			for name, want := range map[string]bool{"x": false, "y": true} {
				if isApart, e := Apart(p, "main", name); isApart != want || e != api.OK {
					t.Errorf("P9.1: %s: Apart(main, %s): %v, %d", c.text, name, isApart, e)
				}
			}
		}
	}
}

// TestSameNames: a global's address, and that of another function's variable, tell nothing of a variable with the same name.
func TestSameNames(t *testing.T) {
	tales(t, [][2]string{
		{"int g;int main(){&g;return g;}", ""},
		{"int g;int main(){&g;int g;return g;}", "+main g int"},
		{"int g;int main(){&g;int g;&g;return g;}", "-main g int"},
		{"int g;int main(){int g;&g;return g;}", "-main g int"},
		{"int g;int main(){{int g=1;out(g);}&g;return g;}", "+main g int"},
		{"int g;int main(){{&g;int g=1;out(g);}&g;return g;}", "+main g int"},
		{"int g;int main(){{int g=1;{&(g);}}&g;return g;}", "-main g int"},
		{"int*g;int main(){int*g=(int*)&g;return 0;}", "-main g int*"},
		{"int g;int main(){int*h=&g;int g=0;return g+*h;}", "+main h int*, +main g int"},
		{"int g;int main(){while(*&g){int g;g=1;}if(&g){int g2=1;}else &g;return *&g;}", "+main g int, +main g2 int"},
		{"int g;int f(int g){return g;}int h(){&g;return 0;}int k(int g){&g;return 0;}int main(){return 0;}", "+f g int, -k g int"},
		{"int f(int x){return x;}int h(int x){return *&x;}int main(int x){return x;}", "+f x int, -h x int, +main x int"},
		{"int f(){int x;&x;return 0;}int h(){int x;return x;}int main(){int x[2];return 0;}int k(){int*x;return 0;}", "-f x int, +h x int, -main x int[2], +k x int*"},
		{"int x;int f(int*p){return *p;}int main(int f){return f;}int p(int*main){&main;return 0;}", "+f p int*, +main f int, -p main int*"},
		{"struct x{int x;};int x(struct x*x){&x->x;return 0;}int main(){struct x x;int y;&x.x;x.x=y;return 0;}", "+x x struct x*, -main x struct x, +main y int"},
		{"int y;int y2;int f(int y){y=1;return 0;}int main(){int x=y;&y;&y2;return f(x);}", "+f y int, +main x int"},
		// A prefix of a name is another name.
		{"int main(){int x;int xx;int xxx;int X;&xx;return 0;}", "+main x int, -main xx int, +main xxx int, +main X int"},
	})
}

// TestNone: what is not there.
func TestNone(t *testing.T) {
	p := compile(t, records+"int g;int e(){return 0;}int f(int a){int b;&b;return 0;}int main(int c){int d[2];{int k;}return c;}int last;")
	names := []string{"", " ", "a", "b", "c", "d", "k", "g", "e", "f", "h", "s", "main", "last", "int", "A", "a ", " a", "aa", "d[2]", "main c", "\x00", "c\x00", "return", "struct s", "0", strings.Repeat("a", 1<<16)}
	there := map[[2]string]bool{{"f", "a"}: true, {"f", "b"}: false, {"main", "c"}: true, {"main", "d"}: false, {"main", "k"}: true}
	blocks := map[string]int{"e": 0, "f": 1, "main": 1}
	for _, f := range names {
		for _, name := range names {
			want, e := false, api.ENONE
			if isApart, isThere := there[[2]string{f, name}]; isThere {
				want, e = isApart, api.OK
			}
			if got, errno := Apart(p, f, name); got != want || errno != e {
				t.Errorf("P9.1: Apart(%.9q, %.9q): %v, %d, want %v, %d", f, name, got, errno, want, e)
			}
		}
		want, e := 0, api.ENONE
		if n, isThere := blocks[f]; isThere {
			want, e = n, api.OK
		}
		if got, errno := Blocks(p, f); got != want || errno != e {
			t.Errorf("P9.1: Blocks(%.9q): %d, %d, want %d, %d", f, got, errno, want, e)
		}
	}
}

// TestEmpty: functions without parameters and variables, among others and alone.
func TestEmpty(t *testing.T) {
	tales(t, [][2]string{
		{"int main(){return 0;}", ""},
		{"int main(){}", ""},
		{"int g;int*h;int main(){h=&g;return *&g;}", ""},
		{"void f(){}int main(){f();return 0;}void h(){}", ""},
		{"void f(){}void g(int a){}void h(){}int main(){int x;&x;return 0;}void k(){}", "+g a int, -main x int"},
	})
	if l := Vars(compile(t, "int main(){return 0;}")); len(l) != 0 {
		t.Errorf("P9.1: Vars of nothing: %v", l)
	}
}

// TestLimits: as many of all as there may be.
func TestLimits(t *testing.T) {
	var text strings.Builder
	var want []Var
	long := strings.Repeat("n", api.MaxName-3)
	for i := range api.MaxFuncs - 1 {
		f := fmt.Sprintf("f%02d%s", i, long)
		fmt.Fprintf(&text, "int %s(int %s,int b){int c;&%c;return 0;}\n", f, f, "bc"[i%2])
		want = append(want, Var{f, f, "int", true}, Var{f, "b", "int", i%2 == 1}, Var{f, "c", "int", i%2 == 0})
	}
	stars := strings.Repeat("*", 9000)
	fmt.Fprintf(&text, "int main(int a){struct big%sq;", stars)
	want = append(want, Var{"main", "a", "int", true}, Var{"main", "q", "struct big" + stars, true})
	for i := range api.MaxVars - 2 {
		v := Var{"main", fmt.Sprint("v", i), "int*", i%3 > 0}
		fmt.Fprintf(&text, "int*%s;", v.Name)
		if !v.Apart {
			fmt.Fprintf(&text, "&%s;", v.Name)
		}
		want = append(want, v)
	}
	text.WriteString("return 0;}struct big{char c[65536];};")
	holds(t, "a great program", compile(t, text.String()), want)
	great := "int main(){char x[65536];{{{return 0;}}}}"
	holds(t, great, compile(t, great), read("-main x char[65536]"))
}

// TestNewMemory: what Vars answers is the caller's, spare room too, and the program stays as it was.
func TestNewMemory(t *testing.T) {
	text := records + "int g;int f(int a,char*b){int c[3];&a;return *b;}void e(){}int main(long x){struct s y;{int z=x;&z;}return 0;}"
	want := read("-f a int, +f b char*, -f c int[3], +main x long, -main y struct s, -main z int")
	p, untouched := compile(t, text), compile(t, text)
	for range 3 {
		holds(t, text, p, want)
		l := Vars(p)
		l = l[:cap(l)]
		for i := range l {
			l[i] = Var{"main", "x", "void", false}
		}
		if first, second := Vars(p), Vars(p); &first[0] == &second[0] {
			t.Errorf("P9.1, R4: two answers share memory")
		}
	}
	if !reflect.DeepEqual(p, untouched) {
		t.Errorf("P9.1, R4: the program is changed")
	}
}
