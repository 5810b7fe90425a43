package check

import (
	"fmt"
	"reflect"
	"strings"
	"testing"

	"plumbob/ast"
)

// each goes through all nodes.
func each(nodes []*ast.Node, look func(*ast.Node)) {
	for _, n := range nodes {
		look(n)
		each(n.Parts(), look)
	}
}

// namesOf tells of each name, in order, whether it stands for a global (G) or for one of the function's (f).
func namesOf(p *Program) string {
	var b strings.Builder
	each(p.Tree().Parts(), func(n *ast.Node) {
		switch {
		case n.Kind() == ast.Name && p.IsGlobal(n):
			b.WriteString("G")
		case n.Kind() == ast.Name:
			b.WriteString("f")
		case p.IsGlobal(n):
			b.WriteString("?")
		}
	})
	return b.String()
}

func TestWhichVariable(t *testing.T) {
	for _, c := range [][2]string{
		{"int x;int main(int a){return x+a;}", "Gf"},
		{"int x;int main(){x=1;int x=x;{x=2;}return x;}", "Gfff"},
		{"int x;int main(){{int x;x=1;}x=2;return x;}", "fGG"},
		{"int x;int main(int x){x=1;{int y=x;}return x;}", "fff"},
		{"int x;int f(){return x;}int main(){int x=1;return x+f();}", "Gf"},
		{"int f(){return f;}int f;int main(){int g=f();return g;}", "Gf"},
		{"int x[2];int y;int main(){{int y=1;x[y]=2;}while(y){int x=y;y=x;}return x[y];}", "GfGGGfGG"},
	} {
		if got := namesOf(taken(t, c[0])); got != c[1] {
			t.Errorf("P7.1: %s: %s, want %s", c[0], got, c[1])
		}
	}
}

// TestTypesOfNodes: expressions have their types, as places where they are some; other nodes have none.
func TestTypesOfNodes(t *testing.T) {
	p := taken(t, "struct s{char c;int a[3];};struct s g;long h;int main(char a){int*p=g.a;&g;g.c=*p+h;if(a)p=0;f();return sizeof(long)+g.a[1];}void f(){}")
	var got []string
	each(p.Tree().Parts(), func(n *ast.Node) {
		typ := p.TypeOf(n)
		if (typ != "") != (n.Kind() >= ast.Number) {
			t.Errorf("P7.1: a node of kind %d at %v has the type %q", n.Kind(), n.At(), typ)
		}
		if typ != "" {
			got = append(got, typ)
		}
	})
	want := []string{"int[3]", "struct s", "struct s*", "struct s", "char", "struct s", "long", "int", "int*", "long", "char", "int*", "int", "void", "int", "int", "int", "int[3]", "struct s", "int"}
	if !reflect.DeepEqual(got, want) {
		t.Errorf("P7.1: types %q, want %q", got, want)
	}
	other := taken(t, "int main(){;;;;;;;;;;;;;;;;;;;;;;;;;;;;;;;;;;;;;;;;;return 1;}")
	each(other.Tree().Parts(), func(n *ast.Node) {
		if n.Serial() > p.Tree().Nodes() && (p.TypeOf(n) != "" || p.IsGlobal(n)) {
			t.Errorf("P7.1: a node of another tree: %q", p.TypeOf(n))
		}
	})
}

func TestVariables(t *testing.T) {
	p := taken(t, "struct s{int i;};int g;int f(int a,char*b){int c[3];{struct s d;&d.i;&b;}&g;long e=0;&(e);&*b;&c[1];{int g;&g;}return 0;}struct s h[2];int main(){int a;return 0;}void k(int x){x=1;}int*l(int x){return &x;}int g2;int m(){&g2;int g2;return 0;}")
	for i, want := range [][]Var{
		{{"a", "int", false}, {"b", "char*", true}, {"c", "int[3]", false}, {"d", "struct s", false}, {"e", "long", true}, {"g", "int", true}},
		{{"a", "int", false}},
		{{"x", "int", false}},
		{{"x", "int", true}},
		{{"g2", "int", false}},
	} {
		for range 2 {
			l := p.Vars(i)
			if !reflect.DeepEqual(l, want) {
				t.Errorf("P7.1: Vars(%d): %v, want %v", i, l, want)
			}
			// R4: what is answered is the caller's, spare room too.
			clear(l[:cap(l)])
		}
	}
	for _, i := range []int{-1, 5, -1 << 63, 1<<63 - 1} {
		if l := p.Vars(i); len(l) > 0 {
			t.Errorf("P7.1: Vars(%d): %v", i, l)
		}
	}
	for range 2 {
		l := p.Globals()
		if !reflect.DeepEqual(l, []Var{{"g", "int", false}, {"h", "struct s[2]", false}, {"g2", "int", false}}) {
			t.Errorf("P7.1: Globals: %v", l)
		}
		clear(l[:cap(l)])
	}
	if l := taken(t, aMain).Globals(); len(l) > 0 {
		t.Errorf("P7.1: Globals: %v", l)
	}
}

// TestTable: the sizes are those that the text says.
func TestTableOfTypes(t *testing.T) {
	p := taken(t, "int main(){return 0;}struct s{char c;long l[2];};struct r{struct s s;int i;};")
	for typ, want := range map[string]string{"int": "4 4 0", "struct s": "24 8 0", "struct r": "32 8 0", "struct r[2]": "64 8 0", "struct q": "0 0 5"} {
		size, align, e := p.Table().Size(typ)
		if got := fmt.Sprintf("%d %d %d", size, align, e); got != want {
			t.Errorf("P7.1: Table: %s: %s, want %s", typ, got, want)
		}
	}
	if l, _ := p.Table().Layout("r"); len(l) != 2 || l[1].Offset != 24 {
		t.Errorf("P7.1: Table: %v", l)
	}
}
