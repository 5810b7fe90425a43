package simpl

import (
	"fmt"
	"math/rand"
	"slices"
	"strings"
	"testing"

	"plumbob/api"
	"plumbob/clight"
)

// maker makes programs by chance, and keeps in mind what Vars must tell of them.
type maker struct {
	*rand.Rand
	text  strings.Builder
	names []string // that the function at hand can still give
	want  []Var
	open  []int // the numbers of those that can be named here, the innermost last
	heads []int // the numbers of each function's first parameter
}

const madeFront = "struct s{int a;int b[2];};int x;int*y;struct s z;int x2;int w[2];"

// madeTypes has those of variables; the first ones are scalar.
var madeTypes = []string{"char", "int", "long", "int*", "void*", "int**", "struct s*", "struct s", "int[3]", "struct s[2]", "int*[2]"}

const (
	madeIntegers = 3
	madeScalars  = 7
	madeParams   = 2 // of each function
)

func (m *maker) some(l ...string) string { return l[m.Intn(len(l))] }

// function writes one, whose body is never gone further into than its first statement.
func (m *maker) function(name string) {
	m.names = strings.Fields("x y z main f0 f1 a b c d e i j k")
	m.Shuffle(len(m.names), func(i, j int) { m.names[i], m.names[j] = m.names[j], m.names[i] })
	m.open, m.heads = nil, append(m.heads, len(m.want))
	fmt.Fprintf(&m.text, "int %s(", name)
	for i := range madeParams {
		if i > 0 {
			m.text.WriteString(",")
		}
		m.declare(name, madeTypes[m.Intn(madeScalars)])
	}
	m.text.WriteString("){return 0;")
	m.statements(name, 3)
	m.text.WriteString("}")
}

// declare writes a type and a name, which can be named from here on.
func (m *maker) declare(function, typ string) {
	name := m.names[0]
	m.names = m.names[1:]
	m.open = append(m.open, len(m.want))
	m.want = append(m.want, Var{function, name, typ, slices.Index(madeTypes, typ) < madeScalars})
	single, count, isArray := strings.Cut(typ, "[")
	fmt.Fprintf(&m.text, "%s %s", single, name)
	if isArray {
		m.text.WriteString("[" + count)
	}
}

func (m *maker) statements(function string, depth int) {
	around := len(m.open)
	for range m.Intn(5) + 1 {
		m.statement(function, depth)
	}
	m.open = m.open[:around]
}

func (m *maker) statement(function string, depth int) {
	head := m.Intn(9)
	switch {
	case head < 4 && len(m.names) > 0:
		m.local(function)
	case head < 7 || depth == 0:
		m.form("~;", "out(~);", "return ~;", "x2=~;", "if(~);", "while(~)break;", "if(1);else ~;", "w[~]=1;")
	default:
		m.form("{", "while(~){", "if(~){", "if(~);else{")
		m.statements(function, depth-1)
		m.text.WriteString("}")
	}
}

// form writes one of some, with an expression for its mark. None is made in vain, since it may take an address.
func (m *maker) form(l ...string) {
	before, behind, isMarked := strings.Cut(m.some(l...), "~")
	m.text.WriteString(before)
	if isMarked {
		m.text.WriteString(m.expression(3))
	}
	m.text.WriteString(behind)
}

func (m *maker) local(function string) {
	typ := m.some(madeTypes...)
	m.declare(function, typ)
	switch number := slices.Index(madeTypes, typ); {
	case number < madeIntegers && m.Intn(2) > 0:
		// It can be named in its own first value.
		m.text.WriteString("=" + m.expression(3))
	case number < madeScalars && m.Intn(2) > 0:
		m.text.WriteString("=0")
	}
	m.text.WriteString(";")
}

// expression tells an integer.
func (m *maker) expression(depth int) string {
	if depth == 0 {
		return m.leaf()
	}
	e, d := func() string { return m.expression(depth - 1) }, m.Intn(8)
	switch {
	case d == 0:
		return "-" + e()
	case d == 1:
		return m.some("!", "~", "(char)", "(long)") + "(" + e() + ")"
	case d < 5:
		left := e()
		return "(" + left + m.some("+", "*", "&", "&&", "||", "==", "<<", "/ ") + e() + ")"
	case d == 5:
		return m.call(e)
	}
	return m.leaf()
}

// call tells one of a function that stands ahead, or the one at hand. A pointer is handed in as 0.
func (m *maker) call(argument func() string) string {
	f := m.heads[m.Intn(len(m.heads))]
	var l []string
	for _, v := range m.want[f : f+madeParams] {
		if strings.HasSuffix(v.Type, "*") {
			l = append(l, "0")
		} else {
			l = append(l, argument())
		}
	}
	return m.want[f].Function + "(" + strings.Join(l, ",") + ")"
}

// leaf tells an integer with one name in it: of a global, unless one of the function's that is open hides it.
func (m *maker) leaf() string {
	globals := []Var{{Name: "x", Type: "int"}, {Name: "y", Type: "int*"}, {Name: "z", Type: "struct s"}}
	number := m.Intn(len(globals) + len(m.open))
	if number >= len(globals) {
		return m.use(&m.want[m.open[number-len(globals)]])
	}
	for _, i := range m.open {
		if m.want[i].Name == globals[number].Name {
			return m.use(&m.want[i])
		}
	}
	return m.use(&globals[number])
}

// use tells an integer made with a variable: in some ways its address is taken.
func (m *maker) use(v *Var) string {
	if !strings.HasSuffix(v.Type, "]") && m.Intn(5) == 0 {
		v.Apart = false
		return strings.ReplaceAll(m.some("(&~!=0)", "!&(~)", "(0==&((~)))", "(1&&&~)"), "~", v.Name)
	}
	way := "(~==0)"
	switch v.Type {
	case "char", "int", "long":
		way = m.some("~", "(~&~)", "w[~]", "(long)(~)")
	case "int*", "int[3]":
		way = m.some("*~", "~[1]", "(&*~!=0)", "!&~[x2]", "(~+1==~)", "!~")
	case "struct s*":
		way = m.some("~->a", "(*~).a", "!&~->a", "!&*~", "!&~->b[1]", "!~")
	case "struct s":
		way = m.some("~.a", "~.b[1]", "!&~.a", "!&~.b[1]", "*~.b")
	case "struct s[2]":
		way = m.some("~->a", "~[1].a", "!&~[1]", "!&~[1].b[0]", "!&*~", "!~")
	}
	return strings.ReplaceAll(way, "~", v.Name)
}

// TestByChance holds programs made by chance against what is known of them, and against what chapter 8's runs show: how many blocks stand ahead of a known one.
func TestByChance(t *testing.T) {
	for seed := range int64(3000) {
		m := &maker{Rand: rand.New(rand.NewSource(seed))}
		m.text.WriteString(madeFront)
		calls := ""
		functions := m.Intn(4) + 1
		for i := range functions {
			m.function(fmt.Sprint("h", i))
			calls += fmt.Sprintf("h%d(0,0);", i)
		}
		text := m.text.String() + "int last(){int q[1];q[0]=1;return 0;}int main(){" + calls + "return last();}"
		p := compile(t, text)
		holds(t, text, p, append(slices.Clip(m.want), Var{"last", "q", "int[1]", false}))

		blocks := len(p.Globals()) + 1
		for i := range functions {
			n, _ := Blocks(p, fmt.Sprint("h", i))
			blocks += n
		}
		r, e := clight.Run(p, nil, nil, 1000)
		if at := r.Leaks[len(r.Leaks)-1]; e != api.OK || r.Kind != api.Halt || at.Kind != api.Addr || at.A != int64(blocks) {
			t.Errorf("P9.1: %s: the run's last block is %d, by Blocks it is %d", text, at.A, blocks)
		}
		if t.Failed() {
			break
		}
	}
}
