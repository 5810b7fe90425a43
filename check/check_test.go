package check

import (
	"fmt"
	"math/rand"
	"reflect"
	"slices"
	"strconv"
	"strings"
	"testing"

	"plumbob/api"
	"plumbob/ast"
	"plumbob/types"
)

const aMain = "int main(){return 0;}"

func parsed(t *testing.T, text string) *ast.Program {
	t.Helper()
	tree, at, e := ast.Parse(text)
	if e != api.OK {
		t.Fatalf("%.300s: %d at %v", text, e, at)
	}
	return tree
}

// taken asks that a text is a program, and that its tree is handed on as it was.
func taken(t *testing.T, text string) *Program {
	t.Helper()
	tree := parsed(t, text)
	told := tree.Text()
	p, at, e := Check(tree)
	if p == nil || at != (api.Pos{}) || e != api.OK {
		t.Fatalf("P7.1: %.300s: %d at %v, want OK", text, e, at)
	}
	if p.Tree() != tree || tree.Text() != told {
		t.Errorf("P7.1: %.300s: another tree", text)
	}
	return p
}

// refused asks that a text is refused, with this error at a place of the text.
func refused(t *testing.T, text string, want api.Errno) {
	t.Helper()
	tree := parsed(t, text)
	told := tree.Text()
	p, at, e := Check(tree)
	if p != nil || e != want {
		t.Errorf("P7.1: %.300s: %v, %d at %v, want %d", text, p != nil, e, at, want)
	}
	if !isPlaceIn(text, at) {
		t.Errorf("P7.1: %.300s: %v is no place of it", text, at)
	}
	if tree.Text() != told {
		t.Errorf("P7.1: %.300s: the tree is changed", text)
	}
	if _, again, e := Check(tree); again != at || e != want {
		t.Errorf("R5: %.300s: %d at %v, then %d at %v", text, want, at, e, again)
	}
}

func isPlaceIn(text string, at api.Pos) bool {
	lines := strings.Split(text, "\n")
	return at.Line >= 1 && at.Line <= len(lines) && at.Col >= 1 && at.Col <= len(lines[at.Line-1])+1
}

func allTaken(t *testing.T, texts ...string) {
	t.Helper()
	for _, text := range texts {
		taken(t, text)
	}
}

func allRefused(t *testing.T, texts ...string) {
	t.Helper()
	for _, text := range texts {
		refused(t, text, api.ETYPE)
	}
}

// allIn lays each text into a function.
func allIn(texts ...string) []string {
	var l []string
	for _, s := range texts {
		l = append(l, within(s))
	}
	return l
}

// allBeside lays each text ahead of a main and behind one.
func allBeside(texts ...string) []string {
	var l []string
	for _, s := range texts {
		l = append(l, s+aMain, aMain+s)
	}
	return l
}

// many has a pattern n times, with the numbers from 0 on in it.
func many(n int, pattern, between string) string {
	var l []string
	for i := range n {
		l = append(l, fmt.Sprintf(pattern, i))
	}
	return strings.Join(l, between)
}

func TestExamples(t *testing.T) {
	taken(t, "int main(){return 0;}")
	allRefused(t, "int main(){return x;}", "int f(){return 0;}", "int main(){break;}")
	allTaken(t,
		"int main(int a){return a*2;}", "int main(){while(1)out(in());}", "char f(char c){return c;}int main(int a){return f(a);}",
		"int main(int s){return s*3+(s==7);}", "long k[4];int main(int s){return k[s];}", "int main(){int a[2];a[0]=7;int*p=a;out(*p);p=p+1;return p==a;}",
		"int main(int a){ long x = a; while (a) { out(x); a = a - 1; } return x / 3; }", "int main(int a){ int x; int *p = &x; int y[2]; return 0; }")
}

func TestStatements(t *testing.T) {
	allTaken(t, allIn(
		"", ";", "{}", "{;{}}", "x=1;", "int y;", "int y=1;", "int y[3];", "struct s y[2];", "if(x);", "if(x)x=1;else x=2;", "while(x)x=0;", "while(x)break;", "while(x)continue;",
		"while(x){if(c)break;else{continue;}}", "while(x)while(c)break;", "while(x){while(c);break;}", "while(x)if(c){{break;}}", "return x;", "return c;", "return l;", "if(x)return 1;else return 2;return 3;", "out(x);", "v();", "(v());", "f(1,0);", "x;", "a;", "0;")...)
	allRefused(t, allIn(
		"break;", "continue;", "{break;}", "if(x)break;", "if(x);else continue;", "while(x);break;", "while(x){}continue;", "{while(x)break;break;}", "if(x)while(c)break;else break;",
		"return;", "if(x)return;", "return q;", "return s;", "return v();", "return y;", "while(x)return q;", "out(q);", "out(a);", "out(s);", "out(v());", "s;", "*ps;", "y;",
		"if(s);", "if(v());", "while(s);", "while(v());", "if(x)y;", "if(x);else y;", "while(x)y;", "{y;}", "1=x;", "x+1=x;", "f(1,0)=1;", "in()=1;", "sizeof(int)=1;", "&x=q;", "(int)x=1;", "-x=1;", "a=q;", "a=a;", "s=s;", "s=gs;", "*ps=s;", "v=1;", "f=0;")...)
	allTaken(t, allBeside("void z(){}", "void z(){return;}", "void z(){{return;}}", "int z(){}", "int*z(){return 0;}", "int*z(int*p){return p;}", "char z(){while(1)return 300;}")...)
	allRefused(t, allBeside("void z(){return 0;}", "void z(){return z();}", "int z(){return;}", "int*z(){return 1;}", "int*z(char*p){return p;}", "void*z(char*p){return p;}", "int*z(){return;}", "void z(){break;}")...)
	// A while of another function is none around a break.
	refused(t, "void z(){while(1);}int main(){break;return 0;}", api.ETYPE)
}

// TestTable has the chapter's rows by hand, beside the model's.
func TestTable(t *testing.T) {
	allTaken(t, allIn(
		"x=2147483647;", "x=2147483648;", "l=-c+~x-l;", "x=!c+!x+!l+!q+!w+!a;", "x=c*x/l%c&x^l|c;", "x=c+x+l;", "q=q+c;q=q+l;q=x+q;q=a+1;q=1+a;ps=sa+1;qq=qa+x;", "x=c-x-l;q=q-c;q=a-l;ps=ps-1;",
		"x=c<<l;l=l>>c;x=x<<1;", "x=c<x;x=x<=l;x=l>c;x=x>=x;", "x=c==l;x=q==&x;x=a==q;x=q!=0;x=(0)!=ps;x=w==w;x=ps!=&s;x=0x0==q;x=wa==ww;", "x=c&&q||w&&l||a;", "x=*q+*a+**qa;s.i=(*ps).i;s.n=&*ps;", "q=&x;ps=&s;qq=&q;q=&*q;q=&a[1];q=&s.i;struct t*pt2=&s.t;pt2=&ps->ts[1];",
		"x=q[c]+a[l]+ps[1].i+qa[0][1];", "s.c=gs.i;ps->l=s.n->l;ps->n->n=0;q=s.a;x=s.a[1];x=ps->ts->i;x=sa->i;x=(*ps).t.i;x=ps->t.c[2];x=ps->pt->i;", "c=(char)l;x=(int)c;l=(long)x;r=(char*)q;w=(void*)ps;ps=(struct s*)w;q=(int*)a;qq=(int**)w;", "x=f(l,0);x=f(c,r);x=f(1,b);x=f(1,(0));v();l=m(f(k(),gp));ps=sf(sf(&s));", "l=in();x=in();", "x=sizeof(char)+sizeof(int)+sizeof(long)+sizeof(void*)+sizeof(struct s)+sizeof(struct s*)+sizeof(int[5])+sizeof(struct t[2])+sizeof(void**[3]);")...)
	allRefused(t, allIn(
		"-q;", "~q;", "~w;", "-a;", "-s;", "-v();", "!s;", "!v();", "q*2;", "2*q;", "q/q;", "q%1;", "q&1;", "1&q;", "q^q;", "q|0;", "s*1;", "v()*1;", "q+q;", "w+1;", "1+w;", "q+s;", "s+1;", "v()+1;", "q-q;", "1-q;", "w-1;", "a-a;",
		"q<<1;", "1<<q;", "q>>q;", "q<q;", "q<0;", "0<=q;", "q>q;", "a>=a;", "q==1;", "1!=q;", "q==x;", "q==r;", "q==w;", "q==-0;", "q==0+0;", "q==(int)0;", "q==(char)0;", "(0==0)==q;", "s==s;", "s!=0;", "v()==0;", "s&&1;", "1||s;", "v()&&1;", "1||v();",
		"*x;", "*1;", "*w;", "*s;", "*v();", "&1;", "&(x+1);", "&a;", "&b;", "&s.a;", "&v();", "&f;", "&f(1,0);", "& &x;", "&(int)x;", "&-x;", "&in();", "x[0];", "0[a];", "w[0];", "a[q];", "a[a];", "a[s];", "a[v()];", "s[0];", "v()[0];",
		"x.i;", "q.i;", "ps.i;", "sa.i;", "s.z;", "s.x;", "sf(0).i;", "v().i;", "s->i;", "x->i;", "q->i;", "w->i;", "ps->z;", "t.l;", "a->i;", "v()->i;", "*ps.n;", "(int)q;", "(int)a;", "(char*)x;", "(int*)0;", "(void*)l;", "(void)x;", "(void)v();", "(int)v();", "(struct s)s;", "(int)s;", "(struct s*)s;", "(struct u*)q;", "(struct u)x;",
		"f();", "f(1);", "f(1,0,2);", "f(q,0);", "f(1,q);", "f(1,1);", "f(1,x);", "f(s,0);", "f(v(),0);", "f(1,s);", "v(1);", "v(v());", "z();", "x();", "g();", "sf(w);", "sf(&t);", "sizeof(void);", "sizeof(struct u);", "sizeof(struct u*);", "sizeof(int[0]);", "sizeof(void[3]);")...)
}

func TestFits(t *testing.T) {
	allTaken(t, allIn("c=x;c=l;x=c;x=l;l=c;l=x;", "q=0;q=(0);q=((0x0));w=0;ps=0;qq=0;", "q=q;q=a;w=w;r=b;ps=sa;qq=qa;ww=wa;", "int*y=0;void*z=(0);char i=l;")...)
	allRefused(t, allIn("q=x;", "q=1;", "q=-0;", "q=!1;", "q=(int)0;", "q=r;", "q=w;", "w=q;", "q=qq;", "qq=q;", "ps=pt;", "ps=&q;", "x=q;", "x=a;", "q=b;", "q=s;", "x=s;", "x=v();", "q=v();", "int y=q;", "int*y=1;", "int*y=r;", "void*y=q;", "int y=v();")...)
}

func TestNames(t *testing.T) {
	allTaken(t,
		// Structs, variables and functions are apart; so are structs' fields.
		"struct a{int a;};struct a a;int a(struct a*p){return p->a;}int main(){return a(&a);}", "int main;int main(){main=1;return main;}", "int f(){return 0;}int main(){int f=f();return f;}", "struct a{int i;};struct b{int i;};"+aMain, "struct main{int main;};"+aMain,
		// A variable, or a parameter, hides a global from its own name on, to the end of its block.
		"int*x;int main(){*x;int x;x=-x;return x;}", "int*x;int main(){{int x=-x;-x;{-x;}}*x;return*x;}", "int*x;int f(int x){return-x;}int main(){return*x;}", "int*x;int main(){int y=*x;{int x=x+y;}if(*x)*x=1;else*x=2;return*x;}", "int*x;int main(){if(*x){int x;-x;}else*x=1;while(*x)*x=0;return*x;}", "int*x;int main(){if(*x)*x=1;else{char x;x=1;}*x;while(*x)*x=0;return*x;}", "int x[3];int main(){x[1]=2;struct s*x=0;x=x;return 0;}struct s{int i;};",
		// A variable can be named in its own declaration.
		"int main(){int y=y;return y;}", "int main(){int*y=&*y;return*y;}", "int y;int main(){int*y=y;return 0;}",
		// A global and a function can be named ahead of their places, a function within itself.
		"int main(){return x;}int x;", "int main(){return f(1);}int f(int a){return g(a);}int g(int a){if(a)return g(a-1);return f(a);}", "struct p*f(){return g;}struct p*g;int main(){return f()->i;}struct p{int i;};",
		// A parameter can be named in all its function.
		"int f(int a,char*b){{while(a){b=b+a;}}return*b;}"+aMain,
		// Names of one function are another's, too.
		"int f(int a){int b;return a;}int g(int a){int b;return b;}int main(int a){int b;return a;}")
	allRefused(t, allBeside(
		"int x;long x;", "int x;int x;", "int x;int y;int x[2];", "int f(){return 0;}int f(){return 0;}", "int f(){return 0;}void g(){}int f(int a){return 0;}", "struct s{int i;};struct s{int i;};", "struct s{int i;};struct u{int i;};struct s{char c;};",
		"int f(int a,int a){return 0;}", "int f(int a,char b,long a){return 0;}", "int f(int a){int a;return 0;}", "int f(int a){{char a;}return 0;}", "int f(){int a;int a;return 0;}", "int f(){int a;{int a;}return 0;}", "int f(){{int a;}int a;return 0;}", "int f(){{int a;}{int a;}return 0;}", "int f(){if(1){int a;}else{int a;}return 0;}", "int f(){while(1){int a;}{{int a;}}return 0;}", "int f(){int a=1;int b=2;char*a=0;return 0;}",
		"int f(){return y;}", "int f(){y=1;int y;return 0;}", "int f(){{int y;}return y;}", "int f(){{int y;}{y;}return 0;}", "int f(){if(1){int y;}else y;return 0;}", "int f(){while(1){int y;}y;return 0;}", "int f(){int a=b;int b;return 0;}", "int f(int a){return 0;}int g(){return a;}", "int f(){int b;return 0;}int g(){return b;}",
		"int*x;int f(){-x;int x;return 0;}", "int*x;int f(){{int x;}-x;return 0;}", "int*x;int f(){int x;return*x;}", "int*x;int f(int x){return*x;}", "int*y;int f(){int y=*y;return 0;}",
		"int f(){return f;}", "int f(){f=1;return 0;}", "int x;int f(){return x();}", "int f(){int a;return a();}", "int f(){return g();}", "struct s{int i;};int f(){return s;}", "struct s{int i;};int f(){return s();}", "struct s{int i;};int f(){return i;}", "int f(){return s.i;}", "int f(){return main;}")...)
	// Two mains.
	refused(t, aMain+aMain, api.ETYPE)
}

// scopes makes a function's body by chance, and knows by lists of the open blocks' names what each name stands for: globals are pointers, variables numbers.
type scopes struct {
	r       *rand.Rand
	text    strings.Builder
	given   []string
	open    [][]string
	globals []string
	isWrong bool
}

func (s *scopes) isOpen(name string) bool {
	for _, block := range s.open {
		if slices.Contains(block, name) {
			return true
		}
	}
	return false
}

func (s *scopes) anyName() string { return "n" + strconv.Itoa(s.r.Intn(24)) }

func (s *scopes) use() {
	name := s.anyName()
	isVariable := s.isOpen(name)
	isGlobal := !isVariable && slices.Contains(s.globals, name)
	wantVariable := isVariable
	if s.r.Intn(60) == 0 {
		wantVariable = !wantVariable
	}
	if !isVariable && !isGlobal && s.r.Intn(60) > 0 {
		return
	}
	if wantVariable {
		s.text.WriteString("-" + name + ";")
	} else {
		s.text.WriteString("*" + name + ";")
	}
	s.isWrong = s.isWrong || wantVariable != isVariable || !isVariable && !isGlobal
}

func (s *scopes) declare() {
	name := s.anyName()
	isTwice := slices.Contains(s.given, name)
	if isTwice && s.r.Intn(60) > 0 {
		return
	}
	s.isWrong = s.isWrong || isTwice
	s.given = append(s.given, name)
	last := len(s.open) - 1
	s.open[last] = append(s.open[last], name)
	s.text.WriteString("int " + name + []string{";", "=1;", "=-" + name + ";"}[s.r.Intn(3)])
}

func (s *scopes) block(depth int) {
	s.open = append(s.open, nil)
	s.text.WriteString("{")
	for range s.r.Intn(9) {
		switch s.r.Intn(6) {
		case 0, 1:
			s.declare()
		case 2:
			if depth > 0 {
				s.text.WriteString([]string{"", "while(0)", "if(1)", "if(1);else "}[s.r.Intn(4)])
				s.block(depth - 1)
			}
		default:
			s.use()
		}
	}
	s.text.WriteString("}")
	s.open = s.open[:len(s.open)-1]
}

func TestScopes(t *testing.T) {
	r := rand.New(rand.NewSource(70))
	count := [2]int{}
	for range 4000 {
		s := &scopes{r: r}
		s.text.WriteString(aMain)
		for i := range 24 {
			if r.Intn(2) == 0 {
				s.globals = append(s.globals, "n"+strconv.Itoa(i))
				s.text.WriteString("int*n" + strconv.Itoa(i) + ";")
			}
		}
		for i := range 3 {
			param := s.anyName()
			s.given = []string{param}
			s.open = [][]string{{param}}
			s.text.WriteString("void f" + strconv.Itoa(i) + "(int " + param + ")")
			s.block(4)
		}
		if s.isWrong {
			count[1]++
			refused(t, s.text.String(), api.ETYPE)
		} else {
			count[0]++
			taken(t, s.text.String())
		}
	}
	if count[0] < 800 || count[1] < 800 {
		t.Errorf("%v: too few of one kind to tell much", count)
	}
}

// orders has all orders of some texts.
func orders(l []string) []string {
	if len(l) == 0 {
		return []string{""}
	}
	var all []string
	for i, s := range l {
		rest := slices.Concat(l[:i], l[i+1:])
		for _, o := range orders(rest) {
			all = append(all, s+o)
		}
	}
	return all
}

func TestOrders(t *testing.T) {
	parts := []string{"struct s{int i;struct s*n;};", "struct s g[2];", "struct s*h;", "int f(struct s*p){return p->i+h->i+g[1].i;}", "int main(){return f(g)+f(h);}"}
	for _, text := range orders(parts) {
		taken(t, text)
	}
	// The structs' own order counts, wherever the rest stands.
	a, b := "struct a{int i;};", "struct b{struct a x;struct c*y;};struct c{struct b z;};"
	for _, text := range orders([]string{"struct b g;", "int f(){return g.x.i+g.y->z.x.i;}", aMain, a + b}) {
		taken(t, text)
	}
	for _, text := range orders([]string{"struct b g;", "int f(){return g.x.i;}", aMain, b + a}) {
		refused(t, text, api.ETYPE)
	}
	taken(t, a+"struct b g;"+aMain+b)
	refused(t, b+"struct b g;"+aMain+a, api.ETYPE)
}

func TestTypes(t *testing.T) {
	base := "struct s{int i;};struct u{struct s s;char c[3];};"
	for _, typ := range []string{"char", "int", "long", "char*", "int**", "void*", "void***", "struct s", "struct u", "struct s*", "struct u**"} {
		for _, brackets := range []string{"", "[1]", "[3]"} {
			allTaken(t, allBeside(base+typ+" g"+brackets+";", base+"void f(){"+typ+" x"+brackets+";}", base+"int f(){{"+typ+" x"+brackets+";}return sizeof("+typ+brackets+");}")...)
		}
		for _, brackets := range []string{"[0]", "[0x0]"} {
			allRefused(t, allBeside(base+typ+" g"+brackets+";", base+"void f(){"+typ+" x"+brackets+";}", base+"int f(){return sizeof("+typ+brackets+");}")...)
		}
		texts := allBeside(base+"void f("+typ+" x){}", base+"void f(int a,public "+typ+" x){}", base+typ+" f(){}")
		if typ == "struct s" || typ == "struct u" {
			allRefused(t, texts...)
		} else {
			allTaken(t, texts...)
		}
	}
	for _, typ := range []string{"void", "struct n", "struct n*", "struct n**"} {
		for _, brackets := range []string{"", "[1]", "[0]"} {
			allRefused(t, allBeside(base+typ+" g"+brackets+";", base+"void f(){"+typ+" x"+brackets+";}", base+"int f(){return sizeof("+typ+brackets+");}")...)
		}
		allRefused(t, allBeside(base+"void f("+typ+" x){}", base+"void f(int a,"+typ+" x){}", base+"void f(){"+typ+" x=0;}")...)
		if typ != "void" {
			allRefused(t, allBeside(base+typ+" f(){}")...)
		}
	}
}

func TestMainFunction(t *testing.T) {
	allTaken(t, aMain, "long main(){return 0;}", "int main(char a,int b,long c,public char d,public int e,public long f){return 0;}", "int main(){}", "int f(){return 0;}int main(){return f();}")
	allRefused(t,
		"", " ", "int x;", "int main;", "struct main{int i;};", "int f(){return 0;}", "int Main(){return 0;}", "int f(){int main;return main;}",
		"void main(){}", "char main(){return 0;}", "int*main(){return 0;}", "void*main(){return 0;}", "struct s{int i;};struct s main(){}", "long*main(){return 0;}",
		"int main(int*p){return 0;}", "int main(void*p){return 0;}", "int main(int a,public char**p){return 0;}", "int main(void a){return 0;}", "struct s{int i;};int main(struct s a){return 0;}", "struct s{int i;};int main(struct s*a){return 0;}",
		"int main(){return main();}", "int f(){return main();}int main(){return 0;}", "int main(){return 0;}int f(){return main();}", "int main(int a){if(0)main(1);return 0;}", "void f(){main();}int main(){return 0;}", "int main(){int main;main();return 0;}")
}

// TestStructs holds the structs that Check takes against those that package types takes, one that is too great made small where another may be wrong behind it.
func TestStructs(t *testing.T) {
	r := rand.New(rand.NewSource(77))
	count := map[api.Errno]int{}
	for range 4000 {
		text, l := anyStructs(r)
		_, number, want := types.New(l)
		isTooGreat := false
		for want == api.ELIMIT {
			isTooGreat = true
			l[number].Fields = []types.Field{{Name: "c", Type: "char"}}
			_, number, want = types.New(l)
		}
		if want == api.OK && isTooGreat {
			want = api.ELIMIT
		}
		count[want]++
		if want == api.OK {
			taken(t, text+aMain)
		} else {
			refused(t, text+aMain, want)
		}
	}
	if count[api.OK] < 800 || count[api.ETYPE] < 800 || count[api.ELIMIT] < 300 {
		t.Errorf("%v: too few of one kind to tell much", count)
	}
}

// anyStructs are wrong, or too great, in a place or two.
func anyStructs(r *rand.Rand) (string, []types.Struct) {
	var text strings.Builder
	var l []types.Struct
	for i := range 1 + r.Intn(6) {
		s := types.Struct{Name: "s" + strconv.Itoa(i)}
		if r.Intn(60) == 0 {
			s.Name = "s0"
		}
		text.WriteString("struct " + s.Name + "{")
		for j := range anyCount(r) {
			f := types.Field{Name: "f" + strconv.Itoa(j), Type: anyFieldType(r, i)}
			if r.Intn(80) == 0 {
				f.Name = "f0"
			}
			brackets := []string{"", "", "[1]", "[7]", "[0]", "[8192]", "[70000]"}[max(0, r.Intn(90)-83)]
			text.WriteString(f.Type + " " + f.Name + brackets + ";")
			f.Type += brackets
			s.Fields = append(s.Fields, f)
		}
		text.WriteString("};")
		l = append(l, s)
	}
	return text.String(), l
}

// anyCount is seldom 0.
func anyCount(r *rand.Rand) int {
	if r.Intn(60) == 0 {
		return 0
	}
	return 1 + r.Intn(4)
}

func anyFieldType(r *rand.Rand, number int) string {
	switch {
	case r.Intn(100) == 0:
		return []string{"void", "struct s9", "struct s9*", "struct s3"}[r.Intn(4)]
	case number > 0 && r.Intn(3) == 0:
		return "struct s" + strconv.Itoa(number-1)
	}
	return []string{"char", "int", "long", "void*", "struct s0*", "char**"}[r.Intn(6)]
}

func TestWrongStructs(t *testing.T) {
	allRefused(t, allBeside("struct s{};", "struct s{int i;int i;};", "struct s{int i;char*c;long i[2];};", "struct s{void v;};", "struct s{void v[2];};", "struct s{int i[0];};", "struct s{struct s s;};", "struct s{struct s s[2];};", "struct s{struct u u;};struct u{int i;};", "struct s{struct u u[1];};struct u{int i;};", "struct s{struct n n;};", "struct s{struct n*n;};", "struct s{struct n**n[2];};", "struct s{int i;};struct u{struct s s;struct u u;};")...)
	allTaken(t, allBeside("struct s{struct s*s;};", "struct s{struct u*u[2];};struct u{struct s s[2];};", "struct s{void*v;void**w[2];};", "struct s{int s;};struct u{struct s u;struct s s;};")...)
}

func TestLimits(t *testing.T) {
	params := func(n int) string { return many(n, "int a%d", ",") }
	holdLimit := func(good, bad string) {
		t.Helper()
		for _, text := range allBeside(good) {
			taken(t, text)
		}
		for _, text := range allBeside(bad) {
			refused(t, text, api.ELIMIT)
		}
	}
	globals := func(n int) string { return many(n, "char g%d;", "") }
	holdLimit(globals(api.MaxVars), globals(api.MaxVars+1))
	// What is no global does not count.
	holdLimit("struct s{int i;};void f(int p){int v;}"+globals(api.MaxVars), "struct s{int i;};void f(int p){int v;}"+globals(api.MaxVars+1))

	locals := func(p, n int) string { return "void f(" + params(p) + "){" + many(n, "char v%d;", "") + "}" }
	for p := range api.MaxParams + 1 {
		holdLimit(locals(p, api.MaxVars-p), locals(p, api.MaxVars-p+1))
	}
	// Variables of all blocks count together; those of another function and globals do not.
	nested := func(n int) string {
		return globals(9) + locals(6, 100) + "void g(int p){" + many(n, "{while(0){int v%d;}}", "") + "}"
	}
	holdLimit(nested(api.MaxVars-1), nested(api.MaxVars))

	heads := func(n int) string { return "int f(" + params(n) + "){return 0;}" }
	holdLimit(heads(api.MaxParams), heads(api.MaxParams+1))
	taken(t, "int main("+params(api.MaxParams)+"){return 0;}")
	refused(t, "int main("+params(api.MaxParams+1)+"){return 0;}", api.ELIMIT)
	refused(t, "void f("+params(7)+"){f("+many(7, "%d", ",")+");}"+aMain, api.ELIMIT)
}

func TestSizeLimits(t *testing.T) {
	for _, c := range [][2]string{
		{"char g[65536];", "char g[65537];"}, {"int g[16384];", "int g[16385];"}, {"long g[8192];", "long g[8193];"}, {"void*g[8192];", "void*g[8193];"}, {"struct s{char c[3];};struct s g[21845];", "struct s{char c[3];};struct s g[21846];"}, {"char g[65536];char h[65536];long i[8192];", "char g[65536];char h[65536];long i[9223372036854775807];"}, {"char g;", "char g[9223372036854775807];"}, {"int g;", "int g[4611686018427387904];"},
		{"void f(){char a[65536];}", "void f(){char a[65537];}"}, {"void f(){char a[65528];char b;}", "void f(){char a[65529];char b;}"}, {"void f(){char b;char a[65528];}", "void f(){char b;char a[65529];}"}, {"void f(){long a[8191];char b[8];}", "void f(){long a[8191];char b[9];}"}, {"void f(){int a[16382];int b;}", "void f(){int a[16382];int b;char c;}"},
		{"void f(){char a[65521];int b=1;}", "void f(){char a[65529];int b=1;}"}, {"struct s{char c[9];};void f(){struct s a[7280];int*b;long c;}", "struct s{char c[9];};void f(){struct s a[7280];int*b;long c;char d;}"},
		{"void f(){{char a[32768];}{char b[32768];}}", "void f(){{char a[32768];}{char b[32761];}if(1){char c;}}"}, {"void f(){char a[65536];}void g(){char a[65536];}", "void f(){char a[65536];}void g(){char a[65536];char b;}"}, {"void f(){char a;}", "void f(){char a[9223372036854775807];}"},
		// Parameters are no variables here.
		{"void f(char p,long q){char a[65536];}", "void f(char p,long q){char a[65536];char b;}"},
		{"struct s{char c[65536];};", "struct s{char c[65537];};"}, {"struct s{char c[65528];long l;};", "struct s{char c[65529];long l;};"}, {"struct s{char c[65536];};struct u{struct s s;};", "struct s{char c[65536];};struct u{struct s s;char c;};"}, {"struct s{char c[65536];};struct u{struct s*s[8192];};", "struct s{char c[65537];};struct u{struct s*s;};"}, {"struct s{char c[65536];};int f(struct s*p){return p->c[1];}", "struct s{char c[65537];};int f(struct s*p){return p->c[1]+(p+1==p)+sizeof(struct s)+sizeof(struct s*);}"},
		{"int f(){return sizeof(char[65536]);}", "int f(){return sizeof(char[65537]);}"}, {"int f(){return sizeof(long[8192])+1;}", "int f(){return-sizeof(long[8193])+1;}"}, {"struct s{int i[3];};int f(){return sizeof(struct s[5461]);}", "struct s{int i[3];};int f(){return sizeof(struct s[5462]);}"}, {"void f(int a){a=sizeof(void*[8192]);}", "void f(int a){while(0)f(sizeof(void*[9223372036854775807]));}"},
	} {
		allTaken(t, allBeside(c[0])...)
		for _, text := range allBeside(c[1]) {
			refused(t, text, api.ELIMIT)
		}
	}
	// Sizes that double, far past what numbers hold.
	text := "struct s0{char c[2];};"
	for i := range 100 {
		text += fmt.Sprintf("struct s%d{struct s%d a;struct s%d b[3];};", i+1, i, i)
	}
	refused(t, text+aMain, api.ELIMIT)
	refused(t, text+"struct s9 g;"+aMain+"struct s{void v;};", api.ETYPE)
}

// TestRulesAheadOfLimits: a program that breaks a rule and passes a limit breaks a rule, wherever either stands.
func TestRulesAheadOfLimits(t *testing.T) {
	past := []string{
		many(api.MaxVars+1, "char g%d;", ""), "void past(" + many(7, "int a%d", ",") + "){}", "void past(){" + many(api.MaxVars+1, "char v%d;", "") + "}", "char past[65537];", "void past(){char a[65529];char b;}", "void past(){char a[65537];}", "struct past{char c[65537];};", "int past(){return sizeof(char[65537]);}", "struct past{char c[65537];};struct past pastAlso[2];",
	}
	wrong := []string{
		"struct s{};", "struct s{int i;int i;};", "struct s{void v;};", "struct s{struct s s;};", "struct s{int i;};struct s{int i;};", "struct s{char c[65537];void v;};", "int x;int x;", "void x;", "struct n x;", "char x[0];", "char x[65537];void x;", "int f(){return y;}", "int f(){return 0;}int f(){return 0;}", "int f(int a,int a){return 0;}", "void f(void a){}", "void f(){int a;int a;}", "void f(){break;}", "void f(){return 1;}", "int f(){return main();}", "struct s{char c[65537];};int f(struct s*p){return p->d;}", "void f(){char a[65537];a=0;}", "int f(int*p){return p==sizeof(char[65537]);}", "int f(" + many(7, "int a%d", ",") + "){return f(1);}", "void f(){char a[65537];y;}",
	}
	for _, p := range past {
		for _, text := range allBeside(p) {
			refused(t, text, api.ELIMIT)
		}
		refused(t, p, api.ETYPE)
		refused(t, p+"int main(int*p){return 0;}", api.ETYPE)
		for _, w := range wrong {
			for _, text := range orders([]string{p, w, aMain}) {
				refused(t, text, api.ETYPE)
			}
		}
	}
}

func TestSigs(t *testing.T) {
	p := taken(t, "struct s{int i;};char f(public int a,struct s*b,public long c){return a;}int x;long main(public char a,int b){return f(1,0,2);}void z(){}struct s**w(void*a,public char**b){return 0;}")
	want := []Sig{
		{"f", "char", []string{"int", "struct s*", "long"}, []bool{true, false, true}},
		{"main", "long", []string{"char", "int"}, []bool{true, false}},
		{Name: "z", Type: "void"},
		{"w", "struct s**", []string{"void*", "char**"}, []bool{false, true}},
	}
	for range 2 {
		l := p.Sigs()
		if !reflect.DeepEqual(l, want) {
			t.Errorf("P7.1: Sigs: %v, want %v", l, want)
		}
		m := p.Main()
		if !reflect.DeepEqual(m, want[1]) {
			t.Errorf("P7.1: Main: %v, want %v", m, want[1])
		}
		if names := p.Tree().Functions(); !slices.Equal(names, []string{"f", "main", "z", "w"}) {
			t.Errorf("P7.1: Tree: %v", names)
		}
		// R4: what is answered is the caller's, spare room too.
		spoil(l)
		spoil([]Sig{m})
	}
}

func spoil(l []Sig) {
	for i, s := range l[:cap(l)] {
		for j := range s.Params[:cap(s.Params)] {
			s.Params[:cap(s.Params)][j] = "spoiled"
		}
		for j := range s.Public[:cap(s.Public)] {
			s.Public[:cap(s.Public)][j] = !s.Public[:cap(s.Public)][j]
		}
		l[:cap(l)][i] = Sig{}
	}
}

func TestSigsShareNothing(t *testing.T) {
	p := taken(t, "void f(int a){}int main(int a){return 0;}")
	l := p.Sigs()
	l[0].Params[0] = "x"
	l[0].Public[0] = true
	l[0].Params = append(l[0].Params, "y")
	if l[1].Params[0] != "int" || l[1].Public[0] || p.Main().Params[0] != "int" {
		t.Errorf("R4: Sigs: %v, %v", l, p.Main())
	}
}

// TestOneTreeTwice: two programs of one tree are apart, and a refusal leaves nothing behind.
func TestOneTreeTwice(t *testing.T) {
	tree := parsed(t, aMain)
	a, _, _ := Check(tree)
	Check(parsed(t, "int main(){return x;}"))
	b, _, _ := Check(tree)
	if a == nil || b == nil || a == b || a.Tree() != tree || b.Tree() != tree || !reflect.DeepEqual(a.Sigs(), b.Sigs()) {
		t.Errorf("P7.1: %v, %v", a, b)
	}
}

// TestGreatTexts has as many of one thing as a text has room for, and parts as deep as they may be.
func TestGreatTexts(t *testing.T) {
	fill := func(head, pattern, end string) string {
		var b strings.Builder
		b.WriteString(head)
		for i := 0; ; i++ {
			next := fmt.Sprintf(pattern, i)
			if b.Len()+len(next)+len(end) > api.MaxText {
				b.WriteString(end)
				return b.String()
			}
			b.WriteString(next)
		}
	}
	refused(t, fill("", "char g%d;", aMain), api.ELIMIT)
	refused(t, fill("", "struct s%d{char c[65537];};", aMain), api.ELIMIT)
	refused(t, fill("void f(){", "char v%d;", "}"+aMain), api.ELIMIT)
	refused(t, fill("void f(", "int*a%d,", "int b){}"+aMain), api.ELIMIT)
	taken(t, fill("struct s{", "int*f%d;", "};"+aMain))
	taken(t, fill(within(""), "struct s%d{char c;};", ""))
	stars := strings.Repeat("*", api.MaxText/2)
	taken(t, fill("int"+stars+"g;void f(){", "g[%d]=0;", "}"+aMain))
	refused(t, fill("int"+stars+"g;void f(){", "g[%d]=0;", "g=&g;}"+aMain), api.ETYPE)
	deep := strings.Repeat("-", 150)
	taken(t, "int main(int a){return "+deep+"a;}")
	refused(t, "int main(int*a){return "+deep+"a;}", api.ETYPE)
}

// FuzzCheck asks of any text that parses that Check ends with one of its errors, and that the tree told with all parentheses comes to the same.
func FuzzCheck(f *testing.F) {
	for _, text := range []string{"", aMain, within("x=a[1];"), within("x=q;"), "int g[65537];" + aMain, "struct s{struct s s;};", "int main(){{int x;}return x;}", "int main(int a){return a(1)[2].b->c;}"} {
		f.Add(text)
	}
	f.Fuzz(func(t *testing.T, text string) {
		tree, _, e := ast.Parse(text)
		if e != api.OK {
			return
		}
		p, at, e := Check(tree)
		switch e {
		case api.OK:
			if p == nil || at != (api.Pos{}) || len(p.Sigs()) != len(tree.Functions()) || p.Main().Name != "main" {
				t.Errorf("P7.1: %q: %v at %v", text, p, at)
			}
		case api.ETYPE, api.ELIMIT:
			if p != nil || !isPlaceIn(text, at) {
				t.Errorf("P7.1: %q: %v, %d at %v", text, p, e, at)
			}
		default:
			t.Errorf("P7.1: %q: %d", text, e)
		}
		if again, _, parses := ast.Parse(tree.Text()); parses == api.OK {
			if _, _, other := Check(again); other != e {
				t.Errorf("P7.1: %q: %d, told %q: %d", text, e, tree.Text(), other)
			}
		}
	})
}
