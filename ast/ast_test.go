package ast

import (
	"math/rand"
	"slices"
	"strconv"
	"strings"
	"testing"

	"plumbob/api"
	"plumbob/lex"
)

func at(line, col int) api.Pos { return api.Pos{Line: line, Col: col} }

// taken asks that a text is taken, that its Text is as wanted, and that Parse of that has the same Text.
func taken(t *testing.T, text, want string) *Program {
	t.Helper()
	p, place, e := Parse(text)
	if e != api.OK || place != (api.Pos{}) || p == nil {
		t.Fatalf("P5.1: Parse(%.80q): %d at %v, want OK", text, e, place)
	}
	if got := p.Text(); got != want {
		t.Errorf("P5.2: Text of %.80q: %q, want %q", text, got, want)
	}
	q, place, e := Parse(want)
	if e != api.OK || place != (api.Pos{}) || q == nil {
		t.Fatalf("P5.3: Parse(%.80q): %d at %v, want OK", want, e, place)
	}
	if got := q.Text(); got != want {
		t.Errorf("P5.3: Text of %.80q: %q", want, got)
	}
	return p
}

// refused asks that a text is refused, with this error at this place.
func refused(t *testing.T, text string, place api.Pos, want api.Errno) {
	t.Helper()
	if p, got, e := Parse(text); p != nil || got != place || e != want {
		t.Errorf("P5.1: Parse(%.80q): %v, %d at %v, want nil, %d at %v", text, p != nil, e, got, want, place)
	}
}

// inBody lays statements into a function: as a text, and as it is told.
func inBody(statements string) string { return "int f(){" + statements + "}" }

func toldBody(statements string) string { return "int f ( ) { " + statements + " }" }

func TestExamples(t *testing.T) {
	taken(t, "int f(int a){return a+2*3;}", "int f ( int a ) { return ( a + ( 2 * 3 ) ) ; }")
	taken(t, "int x;", "int x ;")
	refused(t, "int f(", at(1, 7), api.ESYNTAX)
}

func TestNoWords(t *testing.T) {
	for _, text := range []string{"", " ", "\n\n", "// x", "/* x\n*/ \t\r\n"} {
		if p := taken(t, text, ""); len(p.Functions()) != 0 || p.Nodes() != 0 || len(p.Parts()) != 0 {
			t.Errorf("P5.2: of %q: %v, %d", text, p.Functions(), p.Nodes())
		}
	}
}

func TestItems(t *testing.T) {
	for _, c := range [][2]string{
		{"struct s{};", "struct s { } ;"},
		{"struct s{char c;int*i;long l[0x10];struct s*n;struct t u[2];void**v;};", "struct s { char c ; int * i ; long l [ 16 ] ; struct s * n ; struct t u [ 2 ] ; void * * v ; } ;"},
		{"char c;int i;long l;void v;struct s s;", "char c ; int i ; long l ; void v ; struct s s ;"},
		{"char*c;int**i;long***l;void****v;struct s*****s;", "char * c ; int * * i ; long * * * l ; void * * * * v ; struct s * * * * * s ;"},
		{"int a[0];int*b[0x00ff];struct s c[9223372036854775807];", "int a [ 0 ] ; int * b [ 255 ] ; struct s c [ 9223372036854775807 ] ;"},
		{"void f(){}", "void f ( ) { }"},
		{"char f(char a){}", "char f ( char a ) { }"},
		{"struct s*f(public struct s*a,long b,public void*c){}", "struct s * f ( public struct s * a , long b , public void * c ) { }"},
		{"int f(int a,int b,int c,int d,int e,int f,int g){}", "int f ( int a , int b , int c , int d , int e , int f , int g ) { }"},
		{"int x;int x;void f(){}struct s{};void f(){}int x[1];", "int x ; int x ; void f ( ) { } struct s { } ; void f ( ) { } int x [ 1 ] ;"},
		{"struct s f(){}struct s{int x;};struct s g;", "struct s f ( ) { } struct s { int x ; } ; struct s g ;"},
		{" int\n/*x*/f // y\n(\t)\r{ }\n", "int f ( ) { }"},
	} {
		taken(t, c[0], c[1])
	}
}

func TestStatements(t *testing.T) {
	for _, c := range [][2]string{
		{";", ";"}, {";;", "; ;"}, {"{}", "{ }"}, {"{{}{;}}", "{ { } { ; } }"},
		{"char a;", "char a ;"}, {"int*a[3];", "int * a [ 3 ] ;"}, {"struct s a;", "struct s a ;"}, {"struct s**a=0;", "struct s * * a = 0 ;"}, {"long a=b+0x7fffffffffffffff;", "long a = ( b + 9223372036854775807 ) ;"}, {"void a;a;int b;b;", "void a ; a ; int b ; b ;"},
		{"if(a);", "if ( a ) { ; }"}, {"if(a){}", "if ( a ) { }"}, {"if(a){b;c;}else{d;}", "if ( a ) { b ; c ; } else { d ; }"}, {"if((a))b;else c;d;", "if ( a ) { b ; } else { c ; } d ;"}, {"if(a+b){{}}", "if ( ( a + b ) ) { { } }"},
		{"if(a)if(b)c;else d;", "if ( a ) { if ( b ) { c ; } else { d ; } }"}, {"if(a)if(b)c;else d;else e;", "if ( a ) { if ( b ) { c ; } else { d ; } } else { e ; }"}, {"if(a){if(b)c;}else d;", "if ( a ) { if ( b ) { c ; } } else { d ; }"}, {"if(a)while(b)if(c);else d;", "if ( a ) { while ( b ) { if ( c ) { ; } else { d ; } } }"}, {"if(a)b;else if(c)d;else if(e)f;else g;", "if ( a ) { b ; } else { if ( c ) { d ; } else { if ( e ) { f ; } else { g ; } } }"}, {"if(a)b;else if(c)d;", "if ( a ) { b ; } else { if ( c ) { d ; } }"},
		{"while(1);", "while ( 1 ) { ; }"}, {"while(a<b){break;continue;}", "while ( ( a < b ) ) { break ; continue ; }"}, {"while(a)while(b)return;", "while ( a ) { while ( b ) { return ; } }"}, {"break;continue;", "break ; continue ;"},
		{"return;", "return ;"}, {"return a;", "return a ;"}, {"return(a);", "return a ;"}, {"return-a;", "return ( - a ) ;"}, {"return(int)a;", "return ( ( int ) a ) ;"},
		{"out(a);", "out ( a ) ;"}, {"out((a));", "out ( a ) ;"}, {"out(a*b);", "out ( ( a * b ) ) ;"},
		{"a;", "a ;"}, {"f(a);", "f ( a ) ;"}, {"a=b;", "a = b ;"}, {"*p=*q;", "( * p ) = ( * q ) ;"}, {"a[1].b->c=d+1;", "a [ 1 ] . b -> c = ( d + 1 ) ;"}, {"1=2;", "1 = 2 ;"}, {"a+b=c;", "( a + b ) = c ;"}, {"(a)=(b);", "a = b ;"}, {"a==b;", "( a == b ) ;"}, {"in();", "in ( ) ;"}, {"(int)a=b;", "( ( int ) a ) = b ;"},
	} {
		taken(t, inBody(c[0]), toldBody(c[1]))
	}
}

func TestExpressions(t *testing.T) {
	for _, c := range [][2]string{
		{"0", "0"}, {"0x0", "0"}, {"0xFf", "255"}, {"9223372036854775807", "9223372036854775807"}, {"x1", "x1"}, {"(((x)))", "x"},
		{"f()", "f ( )"}, {"f(a)", "f ( a )"}, {"f(a,b+1,(c),g())", "f ( a , ( b + 1 ) , c , g ( ) )"}, {"in()", "in ( )"},
		{"sizeof(char)", "sizeof ( char )"}, {"sizeof(struct s)", "sizeof ( struct s )"}, {"sizeof(struct s**[0x3])", "sizeof ( struct s * * [ 3 ] )"}, {"sizeof(void)", "sizeof ( void )"},
		{"-a", "( - a )"}, {"~a", "( ~ a )"}, {"!a", "( ! a )"}, {"*a", "( * a )"}, {"&a", "( & a )"}, {"- -a", "( - ( - a ) )"}, {"--a", "( - ( - a ) )"}, {"& &a", "( & ( & a ) )"}, {"-~!*&a", "( - ( ~ ( ! ( * ( & a ) ) ) ) )"},
		{"(char)a", "( ( char ) a )"}, {"(int*)a", "( ( int * ) a )"}, {"(long)(int)a", "( ( long ) ( ( int ) a ) )"}, {"(void)-a", "( ( void ) ( - a ) )"}, {"-(int)a", "( - ( ( int ) a ) )"}, {"(struct s*)a.b", "( ( struct s * ) a . b )"}, {"(int)a+b", "( ( ( int ) a ) + b )"}, {"(int)(a+b)", "( ( int ) ( a + b ) )"}, {"(long)sizeof(int)", "( ( long ) sizeof ( int ) )"},
		{"(a)-b", "( a - b )"}, {"(a)*b", "( a * b )"}, {"(a)&b", "( a & b )"}, {"(int)*b", "( ( int ) ( * b ) )"}, {"(int)&b", "( ( int ) ( & b ) )"},
		{"a[0]", "a [ 0 ]"}, {"a[b+c]", "a [ ( b + c ) ]"}, {"a[b[c]]", "a [ b [ c ] ]"}, {"a.b", "a . b"}, {"a->b", "a -> b"}, {"a[1].b->c[d]", "a [ 1 ] . b -> c [ d ]"},
		{"a[1][2]", "a [ 1 ] [ 2 ]"}, {"a.b.c->d->e", "a . b . c -> d -> e"}, {"f().x", "f ( ) . x"}, {"f(1)[2]", "f ( 1 ) [ 2 ]"}, {"1[a]", "1 [ a ]"}, {"in()[2]", "in ( ) [ 2 ]"}, {"sizeof(int)[2]", "sizeof ( int ) [ 2 ]"}, {"(a).b", "a . b"}, {"(*p).x", "( * p ) . x"}, {"(a+b)[c]", "( a + b ) [ c ]"}, {"((int*)a)[1]", "( ( int * ) a ) [ 1 ]"}, {"(int)a[1]", "( ( int ) a [ 1 ] )"}, {"*a[1]", "( * a [ 1 ] )"}, {"&a->b", "( & a -> b )"}, {"-f(a)", "( - f ( a ) )"},
		{"a-b-c", "( ( a - b ) - c )"}, {"a-(b-c)", "( a - ( b - c ) )"}, {"a*-b", "( a * ( - b ) )"}, {"-a*b", "( ( - a ) * b )"}, {"a&&&b", "( a && ( & b ) )"}, {"a**b", "( a * ( * b ) )"}, {"a- -b", "( a - ( - b ) )"}, {"!a==b", "( ( ! a ) == b )"}, {"a<b==c>d", "( ( a < b ) == ( c > d ) )"},
	} {
		taken(t, inBody("return "+c[0]+";"), toldBody("return "+c[1]+" ;"))
	}
}

// TestLevels holds each two operators between three names against the levels of the chapter.
func TestLevels(t *testing.T) {
	level := map[string]int{}
	var operators []string
	for i, l := range strings.Split("||   &&   |   ^   &   == !=   < <= > >=   << >>   + -   * / %", "   ") {
		for _, op := range strings.Fields(l) {
			level[op] = i
			operators = append(operators, op)
		}
	}
	if len(operators) != 18 {
		t.Fatalf("%d operators", len(operators))
	}
	for _, x := range operators {
		for _, y := range operators {
			want := "( ( a " + x + " b ) " + y + " c )"
			if level[y] > level[x] {
				want = "( a " + x + " ( b " + y + " c ) )"
			}
			taken(t, inBody("a "+x+" b "+y+" c;"), toldBody(want+" ;"))
			taken(t, inBody("(a"+x+"b)"+y+"c;"), toldBody("( ( a "+x+" b ) "+y+" c ) ;"))
			taken(t, inBody("a "+x+" (b "+y+" c);"), toldBody("( a "+x+" ( b "+y+" c ) ) ;"))
			for _, u := range []string{"-", "~", "!", "*", "&"} {
				taken(t, inBody(u+"a "+x+" b;"), toldBody("( ( "+u+" a ) "+x+" b ) ;"))
				taken(t, inBody("a "+x+" "+u+" b;"), toldBody("( a "+x+" ( "+u+" b ) ) ;"))
			}
		}
	}
}

func TestFunctions(t *testing.T) {
	p := taken(t, "int a;int f(){return g();}struct s{int x;};void g(){}char*f(int b){;}", "int a ; int f ( ) { return g ( ) ; } struct s { int x ; } ; void g ( ) { } char * f ( int b ) { ; }")
	for range 2 {
		l := p.Functions()
		if !slices.Equal(l, []string{"f", "g", "f"}) {
			t.Errorf("P5.2: Functions: %v", l)
		}
		// R4: what is answered is the caller's.
		l = append(l[:1], "x", "y", "z")
		l[0] = "w"
	}
	if p.Functions()[0] != "f" || !strings.HasPrefix(p.Text(), "int a ; int f") {
		t.Errorf("R4: a list that was answered is kept")
	}
}

func TestNodes(t *testing.T) {
	for _, c := range []struct {
		text string
		want int
	}{
		{"int x;struct s{int a;};", 0}, {"void f(int a){}", 1}, {inBody(";"), 2}, {inBody("int a;"), 2}, {inBody("int a=1;"), 3}, {inBody("return;"), 2}, {inBody("return (((a)));"), 3}, {inBody("if(a)b;"), 5}, {inBody("if(a)b;else{}"), 6}, {inBody("while(a)break;"), 4}, {inBody("while(a)continue;"), 4}, {inBody("out(a);"), 3}, {inBody("a=b;"), 4}, {inBody("a;"), 3}, {inBody("f(a,1,in());"), 6}, {inBody("-a+b[c].d->e;"), 10}, {inBody("(int)a*sizeof(int);"), 6},
		{"int a;int f(){return 1;}struct s{int x;};void g(){}", 4},
	} {
		p, _, e := Parse(c.text)
		if e != api.OK || p.Nodes() != c.want {
			t.Errorf("P5.2: Nodes of %q: %d, want %d", c.text, p.Nodes(), c.want)
		}
	}
}

// serials counts the nodes of a tree by their serials.
func serials(nodes []*Node, count map[int]int) {
	for _, n := range nodes {
		if (n.Serial() == 0) != (n.Kind() < Block) {
			count[-1]++
		}
		count[n.Serial()]++
		serials(n.Parts(), count)
	}
}

func TestSerials(t *testing.T) {
	for _, text := range []string{
		"int x;struct s{int a;};", "void f(int a){}", "int a;int f(){return 1;}struct s{int x;};void g(public int b,char*c){int d=1;{;}}",
		inBody("if(a)b;else{}while((c)){break;continue;}out(d);e=f(1,in(),-g+h[i].j->k,(int)l*sizeof(int));return;"),
	} {
		p, _, e := Parse(text)
		if e != api.OK {
			t.Fatalf("P5.1: %q: %d", text, e)
		}
		count := map[int]int{}
		serials(p.Parts(), count)
		for i := 1; i <= p.Nodes(); i++ {
			if count[i] != 1 {
				t.Errorf("%q: %d nodes with the serial %d", text, count[i], i)
			}
		}
		if others := len(count) - p.Nodes(); count[-1] > 0 || others > 1 || others == 1 && count[0] == 0 {
			t.Errorf("%q: serials %v of %d nodes", text, count, p.Nodes())
		}
	}
}

// TestFaults has `@` where the first word is that no program goes on with; it is no word of the text.
func TestFaults(t *testing.T) {
	bodies := []string{
		"return @", "return@}", "a@}", "a@ b;", "a=@;", "a=b@=c;", "a+@;", "a+@/b;", "a*@);", "@+a;", "a[@];", "a[1@;", "a[1@)", "a.@1;", "a.@;", "a->@;", "a->@int;", "a.b@(1);", "f(@;", "f(@,a);", "f(a@;", "f(a@]", "f(a,@);", "f(a@ b);", "f()@();", "(a)@(b);", "(a)@b;", "(a)@1;", "(@);", "(a@;", "(@public int)a;", "(int@[3])a;", "(int@;", "(int@a)b;", "(int)@;", "(int)@}", "(struct@)a;", "(struct s@.)a;", "(int)@int;", "-@;", "&@=a;", "@&&a;", "!@)", "a@!b;", "a@~b;", "1@ 2;", "a@ 1;", "1@ a;", "1@(2);", "in@;", "in(@1);", "in()@in();", "sizeof@ 1;", "sizeof(@a);", "sizeof(@1);", "sizeof(int@;", "sizeof(int[@]);", "sizeof(int[@a]);", "sizeof(int[1@);", "sizeof(int[1]@[2]);", "sizeof(int[1]@*);", "sizeof(@public int);", "sizeof(@);",
		"if@ a;", "if(@)", "if(a@;", "if(a@=b);", "if(a)@}", "if(a)@int b;", "if(a)b@}", "if(a)b@ else;", "if(a);else@}", "if(a);else @int b;", "if(a);else;@else;", "if(a){}@)", "@else;", ";@else;", "while@ a;", "while(@)", "while(a@;", "while(a)@}", "while(a)@long b;", "while(a)@else;", "break@}", "break@ a;", "break@ break;", "continue@}", "continue@ 1;", "return a@ b;", "return a@}", "return a@=b;", "return @return;", "return @int a;", "out@ a;", "out(@);", "out(a@,b);", "out(a)@}", "out(a)@+b;", "out(a)@=b;", "out(a)@.b;", "a=@out(b);", "@=a;", "@)", "@]", "@,", "@.a;", "@->a;", "@/a;", "@public int a;", "a;@]",
		"int@;", "int@ 1;", "int*@;", "int*@[3];", "int@(a);", "int @in;", "int @int a;", "int a@}", "int a@ b;", "int a@,b;", "int a@(){}", "int a[@];", "int a[@b];", "int a[@-1];", "int a[1@;", "int a[1@+1];", "int a[1]@[2];", "int a[1]@=2;", "int a=@;", "int a=@{};", "int a=1@,b;", "int a=1@=2;", "int a=1[2@;", "struct@ {int a;}b;", "struct s@{int a;};", "struct s@;", "struct @int a;", "struct s*@{", "int a[1]@*;", "if(a){int b;}int c;@else;",
	}
	texts := []string{
		"@x", "@;", "@(", "@{}", "@}", "@1", "@public int x;", "@if", "@in", "@*x;", "int@", "int@;", "int @5", "int@(", "int@ in;", "int @int x;", "int*@", "int*@[3];", "int*@{", "int@{", "int x@", "int x@=1;", "int x@,y;", "int x@ y;", "int x@{}", "int x@*;", "int x[@", "int x[@];", "int x[@a];", "int x[@-1];", "int x[1@", "int x[1@;", "int x[1@,", "int x[1]@", "int x[1]@[2];", "int x[1]@={};", "int x[1]@(){}", "int x;@;", "int x;@}", "int x;@y;", "int x;@public int y;",
		"struct@", "struct@ {int x;};", "struct@ int", "struct s@", "struct s@;", "struct s@(", "struct s@ 1", "struct s*@{};", "struct s x@{", "struct s{@", "struct s{@x;};", "struct s{@;};", "struct s{@public int x;};", "struct s{struct@{};};", "struct s{struct t@{int x;};};", "struct s{int@;};", "struct s{int*@}", "struct s{int x@}", "struct s{int x@=1;};", "struct s{int x@,y;};", "struct s{int x@(){}};", "struct s{int x[@];};", "struct s{int x[1@;};", "struct s{int x[1]@[2];};", "struct s{int x;@", "struct s{int x;}@", "struct s{int x;}@x;", "struct s{int x;}@int y;", "struct s{}@{}", "struct s{};@;",
		"int f(@", "int f(@a){}", "int f(@;", "int f(@,int a){}", "int f(@1){}", "int f(@const int a){}", "int f(public@", "int f(public@ a){}", "int f(public@ public int a){}", "int f(public@){}", "int f(int@", "int f(int@){}", "int f(void@){}", "int f(int@,int){}", "int f(int*@){}", "int f(int@ public a){}", "int f(int a@", "int f(int a@;", "int f(int a@[3]){}", "int f(int a@=1){}", "int f(int a@ int b){}", "int f(int a,@", "int f(int a,@){}", "int f(int a,@b){}", "int f(int a,@,int b){}", "int f(struct@){}", "int f(struct s@){}", "int f(struct s@{}){}", "int f()@", "int f()@;", "int f()@int x;", "int f()@[1];", "int f(){@", "int f(){;@", "int f(){;}@}", "int f(){;}@;", "int f(){;}@x;", "int f(){}@(", "int f(){{}@",
	}
	for _, b := range bodies {
		texts = append(texts, inBody(b), "int g;\nvoid g(){while(1){"+b)
	}
	for _, text := range texts {
		ahead, behind, _ := strings.Cut(text, "@")
		behind = strings.TrimLeft(behind, " ")
		gap := ""
		if ahead != "" && behind != "" && (isLetter(ahead[len(ahead)-1]) || isDigit(ahead[len(ahead)-1])) {
			gap = " "
		}
		refused(t, ahead+gap+behind, endOf(ahead+gap), api.ESYNTAX)
		if behind != "" {
			refused(t, ahead+" /*\n*/ // x\n\t "+behind, endOf(ahead+"\n\n\t "), api.ESYNTAX)
		}
	}
}

func TestTextsEnd(t *testing.T) {
	for _, c := range []struct {
		behind string
		place  api.Pos
	}{
		{"", at(1, 7)}, {" ", at(1, 8)}, {"\t\r ", at(1, 10)}, {"\n", at(2, 1)}, {"\n\n", at(3, 1)}, {"\n \n  ", at(3, 3)}, {"//", at(1, 9)}, {"// x\n", at(2, 1)}, {"/* x */", at(1, 14)}, {"/*\n*/", at(2, 3)}, {" /*\n\n*/\n// y", at(4, 5)},
	} {
		refused(t, "int f("+c.behind, c.place, api.ESYNTAX)
	}
	refused(t, "int\nf(){\n", at(3, 1), api.ESYNTAX)
	refused(t, "int\nf(){\nreturn\n", at(4, 1), api.ESYNTAX)
	refused(t, "\n\nint", at(3, 4), api.ESYNTAX)
}

func TestLexFaults(t *testing.T) {
	refused(t, "int f( @", at(1, 8), api.ELEX)
	refused(t, "@", at(1, 1), api.ELEX)
	refused(t, "int x;\n int 007;", at(2, 6), api.ELEX)
	refused(t, "int x; /* ", at(1, 8), api.ELEX)
	// Lex's error counts first, wherever it stands.
	refused(t, "int int int;\n}}}\n $", at(3, 2), api.ELEX)
	refused(t, strings.Repeat("(", 30000)+"#", at(1, 30001), api.ELEX)
	refused(t, strings.Repeat(" ", api.MaxText+1), at(0, 0), api.ELIMIT)
	refused(t, strings.Repeat("@", api.MaxText+1), at(0, 0), api.ELIMIT)
	taken(t, "int x;"+strings.Repeat(" ", api.MaxText-6), "int x ;")
	refused(t, "int x"+strings.Repeat("\n", api.MaxText-5), at(api.MaxText-4, 1), api.ESYNTAX)
}

// nested makes texts of n parts within one another, each by another form.
func nested(n int) []string {
	again := func(s string) string { return strings.Repeat(s, n) }
	return []string{
		inBody("return " + again("(") + "a" + again(")") + ";"),
		inBody("return " + again("-") + "a;"),
		inBody(again("*") + "a=1;"),
		inBody("a=" + again("!") + "a;"),
		inBody("out(" + again("(int)") + "a);"),
		inBody("int x=a" + again("+a") + ";"),
		inBody("a" + again("||a") + ";"),
		inBody("a;" + "a" + again("[0]") + ";"),
		inBody("a" + again(".b") + ";"),
		inBody("a" + again("->b") + "=1;"),
		inBody(again("a[") + "0" + again("]") + ";"),
		inBody(again("f(") + "0" + again(")") + ";"),
		inBody(again("f(1,") + "0" + again(")") + ";"),
		inBody(again("{") + again("}")),
		inBody(again("if(a)") + ";"),
		inBody(again("if(a);else ") + ";"),
		inBody(again("while(a)") + ";"),
		inBody(again("while(a){") + again("}")),
		inBody("if(" + again("(") + "a" + again(")") + ");"),
		inBody("while(" + again("a+(") + "a" + again(")") + ");"),
	}
}

func TestDepth(t *testing.T) {
	for _, text := range nested(api.MaxDepth/10 - 2) {
		p, _, e := Parse(text)
		if e != api.OK {
			t.Errorf("P5.1: a tenth of MaxDepth: %.60q: %d", text, e)
			continue
		}
		taken(t, text, p.Text())
	}
	for _, n := range []int{10*api.MaxDepth + 1, 5000, 8000} {
		for _, text := range nested(n) {
			if p, place, e := Parse(text); p != nil || e != api.ELIMIT || place.Line < 1 && len(text) <= api.MaxText {
				t.Errorf("P5.1: %d deep: %.60q: %d at %v", n, text, e, place)
			}
		}
	}
	// A text that is wrong, too: either error may be told.
	for _, text := range []string{"", "int f(){", "int f(){return ", "int f(int a)"} {
		for _, open := range []string{"(", "-", "{", "f(", "a[", "if(a)", "(int)", "while(", "f(a,", "a+", "a.", "if(a);else "} {
			long := text + strings.Repeat(open, 60000/len(open))
			if p, place, e := Parse(long); p != nil || e != api.ESYNTAX && e != api.ELIMIT || place.Line != 1 || place.Col < 1 {
				t.Errorf("P5.1: wrong and deep: %.60q: %d at %v", long, e, place)
			}
		}
	}
	// Here it is the limit, at the first part that is too deep, since the parser's own calls are not to nest without end.
	for _, c := range [][2]string{{"return ", "("}, {"", "f("}, {"", "a["}, {"out(", "f(a,"}, {"", "{"}, {"", "if(a)"}, {"", "while(a)"}, {"", "if(a);else "}} {
		begin := "int f(){" + c[0]
		p, place, e := Parse(begin + strings.Repeat(c[1], 5000))
		if most := len(begin) + len(c[1])*(api.MaxDepth+2); p != nil || e != api.ELIMIT || place.Line != 1 || place.Col > most {
			t.Errorf("P5.1: wrong and deep by %q: %d at %v", c[1], e, place)
		}
	}
}

// TestDepthEdge: at the limit all is well, one past it is refused, as this package counts: a function's block, a statement in it, and n parentheses round an expression are n + 3 deep.
func TestDepthEdge(t *testing.T) {
	const n = api.MaxDepth - 3
	again := strings.Repeat
	for _, c := range [][3]string{
		{"a=", "(", ")"}, {"a=", "-", ""}, {"a=", "(long)", ""}, {"", "", "+0"}, {"", "", "[0]"}, {"", "", ".b"}, {"", "f(", ")"}, {"", "a[", "]"}, {"out(", "", ""},
	} {
		text := func(n int) string {
			body := c[0] + again(c[1], n) + "0" + again(c[2], n)
			if c[0] == "out(" {
				body = again("{", n) + "out(0);" + again("}", n)
			}
			return inBody(body + ";")
		}
		if _, _, e := Parse(text(n)); e != api.OK {
			t.Errorf("P5.1: at MaxDepth: %.60q: %d", text(n), e)
		}
		if p, place, e := Parse(text(n + 1)); p != nil || e != api.ELIMIT || place.Line != 1 || place.Col < 1 {
			t.Errorf("P5.1: one past MaxDepth: %.60q: %d at %v", text(n+1), e, place)
		}
	}
	// Parts beside one another are no deeper, whatever they were.
	wide := again("if(a)if(a)((((a))));else{{{a=-(-a);}}}", 50) + "f(" + again("(a),", 300) + "a);"
	if _, _, e := Parse(inBody(wide)); e != api.OK {
		t.Errorf("P5.1: many parts beside one another: %d", e)
	}
}

func TestManyNodes(t *testing.T) {
	for _, c := range []struct {
		n int
		e api.Errno
	}{{api.MaxNodes / 10, api.OK}, {api.MaxNodes, api.OK}, {api.MaxNodes + 1, api.ELIMIT}, {3 * api.MaxNodes, api.ELIMIT}, {10*api.MaxNodes + 1, api.ELIMIT}} {
		text := "void f(){" + strings.Repeat(";", c.n-1) + "}"
		p, _, e := Parse(text)
		if e != c.e || (p == nil) != (e != api.OK) {
			t.Errorf("P5.1: %d statements: %d", c.n, e)
		}
		if p != nil && p.Nodes() != c.n {
			t.Errorf("P5.2: %d statements: Nodes %d", c.n, p.Nodes())
		}
	}
	// A block, a call as a statement, its two nodes, and arguments.
	for _, c := range []struct {
		n int
		e api.Errno
	}{{api.MaxNodes / 10, api.OK}, {api.MaxNodes - 3, api.OK}, {api.MaxNodes - 2, api.ELIMIT}} {
		if _, _, e := Parse(inBody("f(0" + strings.Repeat(",0", c.n-1) + ");")); e != c.e {
			t.Errorf("P5.1: %d expressions: %d", c.n, e)
		}
	}
}

func TestManyFunctions(t *testing.T) {
	for _, c := range []struct {
		n int
		e api.Errno
	}{{api.MaxFuncs / 10, api.OK}, {api.MaxFuncs, api.OK}, {api.MaxFuncs + 1, api.ELIMIT}, {10*api.MaxFuncs + 1, api.ELIMIT}} {
		p, place, e := Parse("int x;" + strings.Repeat("void f(){}", c.n))
		if e != c.e || (p == nil) != (e != api.OK) || (place.Line == 1) != (e != api.OK) {
			t.Errorf("P5.1: %d functions: %d at %v", c.n, e, place)
		}
		if p != nil && len(p.Functions()) != c.n {
			t.Errorf("P5.2: %d functions: %d names", c.n, len(p.Functions()))
		}
	}
	taken(t, strings.Repeat("int x;", 300)+strings.Repeat("struct s{};", 300), strings.TrimSpace(strings.Repeat("int x ; ", 300)+strings.Repeat("struct s { } ; ", 300)))
}

func TestLongTypes(t *testing.T) {
	stars := strings.Repeat("*", 30000)
	taken(t, "int"+stars+"x;", "int"+strings.Repeat(" *", 30000)+" x ;")
	refused(t, "int"+stars, at(1, 30004), api.ESYNTAX)
}

// told writes a tree down by what its nodes answer.
func told(l []*Node) string {
	var b strings.Builder
	for _, n := range l {
		b.WriteString(" (" + strconv.Itoa(n.Kind()) + "@" + strconv.Itoa(n.At().Line) + ":" + strconv.Itoa(n.At().Col))
		for _, s := range []string{n.Name(), n.Op(), n.Type()} {
			if s != "" {
				b.WriteString(" " + s)
			}
		}
		if n.N() != 0 {
			b.WriteString(" " + strconv.FormatInt(n.N(), 10))
		}
		if n.Public() {
			b.WriteString(" public")
		}
		b.WriteString(told(n.Parts()) + ")")
	}
	return b.String()
}

func TestTree(t *testing.T) {
	k := strconv.Itoa
	for _, c := range [][2]string{
		{"struct s{int*a;struct t b[2];};", " (" + k(Struct) + "@1:1 s (" + k(Field) + "@1:14 a int*) (" + k(Field) + "@1:25 b struct t[2]))"},
		{"void*x;struct s**y[0x10];", " (" + k(Global) + "@1:6 x void*) (" + k(Global) + "@1:18 y struct s**[16])"},
		{"long f(public int a,char*b){}", " (" + k(Function) + "@1:6 f long (" + k(Param) + "@1:19 a int public) (" + k(Param) + "@1:26 b char*) (" + k(Block) + "@1:28))"},
		{inBody("\nint a;\nint*b=0;int c[0];;"), " (" + k(Function) + "@1:5 f int (" + k(Block) + "@1:8 (" + k(Local) + "@2:5 a int) (" + k(Local) + "@3:5 b int* (" + k(Number) + "@3:7)) (" + k(Local) + "@3:13 c int[0]) (" + k(Empty) + "@3:18)))"},
		{inBody("\nif(a)break;else continue;\nif(b)return;\nwhile(1)return 2;"), " (" + k(Function) + "@1:5 f int (" + k(Block) + "@1:8 (" + k(If) + "@2:1 (" + k(Name) + "@2:4 a) (" + k(Break) + "@2:6) (" + k(Continue) + "@2:17)) (" + k(If) + "@3:1 (" + k(Name) + "@3:4 b) (" + k(Return) + "@3:6)) (" + k(While) + "@4:1 (" + k(Number) + "@4:7 1) (" + k(Return) + "@4:9 (" + k(Number) + "@4:16 2)))))"},
		{inBody("\nout(in());\n(a)=b;\nf(1,2);{}"), " (" + k(Function) + "@1:5 f int (" + k(Block) + "@1:8 (" + k(Out) + "@2:1 (" + k(In) + "@2:5)) (" + k(Assign) + "@3:1 (" + k(Name) + "@3:2 a) (" + k(Name) + "@3:5 b)) (" + k(Value) + "@4:1 (" + k(Call) + "@4:1 f (" + k(Number) + "@4:3 1) (" + k(Number) + "@4:5 2))) (" + k(Block) + "@4:8)))"},
		{inBody("\n-a*(int*)b;\n(a).b[1]->c;\nsizeof(char[3]);"), " (" + k(Function) + "@1:5 f int (" + k(Block) + "@1:8 (" + k(Value) + "@2:1 (" + k(Binary) + "@2:3 * (" + k(Unary) + "@2:1 - (" + k(Name) + "@2:2 a)) (" + k(Cast) + "@2:4 int* (" + k(Name) + "@2:10 b)))) (" + k(Value) + "@3:1 (" + k(Member) + "@3:9 c -> (" + k(Index) + "@3:6 (" + k(Member) + "@3:4 b . (" + k(Name) + "@3:2 a)) (" + k(Number) + "@3:7 1)))) (" + k(Value) + "@4:1 (" + k(Sizeof) + "@4:1 char[3]))))"},
	} {
		p, _, e := Parse(c[0])
		if e != api.OK {
			t.Fatalf("P5.1: %q: %d", c[0], e)
		}
		for range 2 {
			if got := told(p.Parts()); got != c[1] {
				t.Errorf("%q:\n%s, want\n%s", c[0], got, c[1])
			}
			// R4: what is answered is the caller's.
			for _, n := range p.Parts() {
				clear(n.Parts())
			}
			clear(p.Parts())
		}
	}
}

func TestSameAgain(t *testing.T) {
	text := "struct s{int a;};int f(public int a){if(a)return a*2;out(in());return 0x10;}"
	p, _, _ := Parse(text)
	q, _, _ := Parse(strings.Clone(text))
	first := p.Text()
	if first != q.Text() || first != p.Text() || p.Nodes() != q.Nodes() || told(p.Parts()) != told(q.Parts()) {
		t.Errorf("R5: two trees of one text")
	}
}

// pair is a form as a text may have it, and as Text tells it.
type pair struct{ written, told []string }

func words(text string) pair { l := strings.Fields(text); return pair{l, l} }

func join(l ...pair) pair {
	var all pair
	for _, p := range l {
		all.written = append(all.written, p.written...)
		all.told = append(all.told, p.told...)
	}
	return all
}

// maker makes programs by chance, as trees.
type maker struct {
	*rand.Rand
	patience int
}

func (m *maker) some(l ...string) string { return l[m.Intn(len(l))] }

func (m *maker) name() pair { return words(m.some("a", "b", "p", "q9", "_", "intx", "f")) }

func (m *maker) number() pair {
	n := m.Int63() >> m.Intn(63)
	p := words(strconv.FormatInt(n, 10))
	if m.Intn(3) == 0 {
		p.written = []string{"0x" + strconv.FormatInt(n, 16)}
	}
	return p
}

func (m *maker) typ() pair {
	return words(m.some("char", "int", "long", "void", "struct s", "struct t") + m.some("", "", " *", " * *"))
}

func (m *maker) brackets() pair { return join(words("["), m.number(), words("]")) }

// binaries has the operators by level, as the chapter tells them.
var binaries = [][]string{{"||"}, {"&&"}, {"|"}, {"^"}, {"&"}, {"==", "!="}, {"<", "<=", ">", ">="}, {"<<", ">>"}, {"+", "-"}, {"*", "/", "%"}}

// expr makes an expression that may stand where one of a level is asked for: 0 to 9 the binary ones, 10 unary, 11 postfix.
func (m *maker) expr(asked int) pair {
	m.patience--
	level := m.Intn(13)
	if m.patience < 0 {
		level = 12
	}
	var p pair
	switch {
	case level < 10:
		ops := binaries[level]
		p = join(m.expr(level), words(ops[m.Intn(len(ops))]), m.expr(level+1))
		p.told = slices.Concat([]string{"("}, p.told, []string{")"})
	case level == 10:
		ahead := words(m.some("-", "~", "!", "*", "&"))
		if m.Intn(3) == 0 {
			ahead = join(words("("), m.typ(), words(")"))
		}
		p = join(ahead, m.expr(10))
		p.told = slices.Concat([]string{"("}, p.told, []string{")"})
	case level == 11:
		behind := join(words(m.some(".", "->")), m.name())
		if m.Intn(2) == 0 {
			behind = join(words("["), m.expr(0), words("]"))
		}
		p = join(m.expr(11), behind)
	default:
		p = m.primary()
	}
	for level < asked || m.Intn(9) == 0 {
		p.written = slices.Concat([]string{"("}, p.written, []string{")"})
		level = 12
	}
	return p
}

func (m *maker) primary() pair {
	switch m.Intn(9) {
	case 0:
		args := words("(")
		for i := range m.Intn(4) {
			if i > 0 {
				args = join(args, words(","))
			}
			args = join(args, m.expr(0))
		}
		return join(m.name(), args, words(")"))
	case 1:
		return words("in ( )")
	case 2:
		inner := m.typ()
		if m.Intn(2) == 0 {
			inner = join(inner, m.brackets())
		}
		return join(words("sizeof ("), inner, words(")"))
	case 3, 4, 5:
		return m.number()
	}
	return m.name()
}

// body makes a statement behind if, else or while; short tells whether an else behind it would become a part of it.
func (m *maker) body() (p pair, short bool) {
	p, isBlock, short := m.statement()
	if !isBlock {
		p.told = slices.Concat([]string{"{"}, p.told, []string{"}"})
	}
	return p, short
}

func (m *maker) statement() (p pair, isBlock, short bool) {
	m.patience--
	kind := m.Intn(12)
	if m.patience < 0 {
		kind = 11
	}
	switch kind {
	case 0, 1:
		return m.block(), true, false
	case 2, 3:
		p, inner := m.body()
		p = join(words("if ("), m.expr(0), words(")"), p)
		if inner || m.Intn(2) == 0 {
			return p, false, true
		}
		behind, short := m.body()
		return join(p, words("else"), behind), false, short
	case 4:
		p, short := m.body()
		return join(words("while ("), m.expr(0), words(")"), p), false, short
	case 5:
		return words(m.some(";", "break ;", "continue ;", "return ;")), false, false
	case 6:
		return join(words("return"), m.expr(0), words(";")), false, false
	case 7:
		return join(words("out ("), m.expr(0), words(") ;")), false, false
	case 8:
		return join(m.expr(0), words(";")), false, false
	}
	return join(m.expr(0), words("="), m.expr(0), words(";")), false, false
}

func (m *maker) block() pair {
	p := words("{")
	for range m.Intn(5) {
		if m.Intn(3) > 0 {
			s, _, _ := m.statement()
			p = join(p, s)
			continue
		}
		p = join(p, m.typ(), m.name())
		switch m.Intn(3) {
		case 0:
			p = join(p, m.brackets())
		case 1:
			p = join(p, words("="), m.expr(0))
		}
		p = join(p, words(";"))
	}
	return join(p, words("}"))
}

func (m *maker) variable() pair {
	p := join(m.typ(), m.name())
	if m.Intn(2) == 0 {
		p = join(p, m.brackets())
	}
	return join(p, words(";"))
}

func (m *maker) item() pair {
	switch m.Intn(4) {
	case 0:
		p := join(words("struct"), m.name(), words("{"))
		for range m.Intn(4) {
			p = join(p, m.variable())
		}
		return join(p, words("} ;"))
	case 1:
		return m.variable()
	}
	p := join(m.typ(), m.name(), words("("))
	for i := range m.Intn(4) {
		if i > 0 {
			p = join(p, words(","))
		}
		p = join(p, words(m.some("", "public")), m.typ(), m.name())
	}
	return join(p, words(")"), m.block())
}

// lay makes a text of words, with gaps by chance, and tells where each word stands; and at last the text's end.
func lay(random *rand.Rand, l []string) (string, []api.Pos) {
	gaps := []string{"", " ", "  ", "\t", "\r\n", "\n", "/**/", "/* x */", "/*\n*/", "// y\n"}
	text := gaps[random.Intn(len(gaps))]
	var places []api.Pos
	for _, w := range l {
		places = append(places, endOf(text))
		gap := gaps[random.Intn(len(gaps))]
		// A slash would make a remark of a remark's beginning, and some words are others without a gap.
		if w == "/" || gap == "" && !strings.Contains("(){}[];,~", w) {
			gap = " "
		}
		text += w + gap
	}
	return text, append(places, endOf(text))
}

// TestMade makes trees by chance, and holds Text against what they must be told as.
func TestMade(t *testing.T) {
	m := &maker{Rand: rand.New(rand.NewSource(5))}
	for range 4000 {
		m.patience = m.Intn(60)
		var all pair
		for range m.Intn(4) {
			all = join(all, m.item())
		}
		text, _ := lay(m.Rand, all.written)
		taken(t, text, strings.Join(all.told, " "))
	}
}

// allWords has each keyword and mark, a name and a number.
var allWords = strings.Fields("char int long void struct public if else while break continue return sizeof in out ( ) { } [ ] ; , . -> = == != < <= > >= << >> + - * / % & && | || ^ ~ ! a 5")

// TestAllWays holds the places of faults against a reader that goes all of the grammar's ways at once: of programs made by chance, with words left out, put in, changed.
func TestAllWays(t *testing.T) {
	r := readRules(grammar)
	short := r.shortest()
	random := rand.New(rand.NewSource(55))
	good := 0
	for range 6000 {
		patience := random.Intn(150)
		l := r.words(random, short, "program", &patience)
		if len(l) > 60 {
			l = l[:60]
		}
		for range random.Intn(3) {
			i := random.Intn(len(l) + 1)
			w := allWords[random.Intn(len(allWords))]
			switch k := min(i+random.Intn(2), len(l)); random.Intn(4) {
			case 0:
				l = slices.Insert(l, i, w)
			case 1:
				l = slices.Delete(l, i, k)
			case 2:
				l = slices.Replace(l, i, k, w)
			default:
				l = l[:i]
			}
		}
		text, places := lay(random, l)
		wrong, isWrong := r.firstWrong(l)
		if isWrong {
			refused(t, text, places[wrong], api.ESYNTAX)
		} else if p, place, e := Parse(text); e != api.OK {
			t.Errorf("P5.1: %q: %d at %v, want OK", text, e, place)
		} else {
			good++
			taken(t, text, p.Text())
		}
	}
	if good < 1000 {
		t.Errorf("only %d programs", good)
	}
}

// TestEachWordBehind asks, behind beginnings that end in unlike forms, of each word whether a program goes on with it.
func TestEachWordBehind(t *testing.T) {
	r := readRules(grammar)
	random := rand.New(rand.NewSource(555))
	wholes := []string{"struct s { int * a ; struct t b [ 2 ] ; } ; int x ; struct s * y [ 3 ] ; void f ( ) { }", "long g ( public int a , struct s * b ) { } int x ;"}
	for _, body := range []string{
		"; { } int c ; int d [ 4 ] ; struct s e ; char h = a ;", "if ( a ) b ; else c ; if ( a ) { }", "while ( a ) if ( b ) break ; else continue ;", "return ; return a ; out ( a ) ;", "a ; a = b ; a + b * - c ; ( a ) ;", "( int ) a ; ( struct s * ) a ;", "a [ 1 ] . b -> c ; f ( ) ; f ( a , b ) ;", "in ( ) ; sizeof ( int ) ; sizeof ( struct s * [ 2 ] ) ;", "( a + b ) [ 1 ] ; ! ~ & a == 1 ;",
	} {
		wholes = append(wholes, toldBody(body))
	}
	for _, text := range wholes {
		whole := strings.Fields(text)
		for i := range len(whole) + 1 {
			for _, w := range allWords {
				l := append(slices.Clone(whole[:i]), w)
				text, places := lay(random, l)
				wrong, isWrong := r.firstWrong(l)
				if isWrong {
					refused(t, text, places[wrong], api.ESYNTAX)
				} else if _, place, e := Parse(text); e != api.OK {
					t.Errorf("P5.1: %q: %d at %v, want OK", text, e, place)
				}
			}
		}
	}
}

func FuzzParse(f *testing.F) {
	f.Add("int f(int a){return a+2*3;}")
	f.Add("struct s{int*a;};void f(public int a){if(a)if(a);else while(1){out(in());}}")
	f.Add("int f(){(int)a[sizeof(char*[3])].b->c=f(1,-~!*&x);int y=0x1F;break;continue;}")
	f.Add("int f(")
	f.Fuzz(func(t *testing.T, text string) {
		p, place, e := Parse(text)
		_, at, wrong := lex.Words(text)
		if (p == nil) != (e != api.OK) || e == api.OK && place != (api.Pos{}) {
			t.Fatalf("R2: %q: %d at %v", text, e, place)
		}
		if (e == api.ELEX || wrong != api.OK) && (e != wrong || place != at) {
			t.Fatalf("P5.1: %q: %d at %v, but lex %d at %v", text, e, place, wrong, at)
		}
		if e != api.OK {
			return
		}
		q, _, e := Parse(p.Text())
		if e != api.OK && e != api.ELIMIT || e == api.OK && q.Text() != p.Text() {
			t.Fatalf("P5.3: %q: %d", text, e)
		}
	})
}
