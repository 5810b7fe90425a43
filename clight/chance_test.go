package clight

import (
	"fmt"
	"math/rand"
	"slices"
	"strings"
	"testing"

	"plumbob/api"
)

// made is a variable that can be named.
type made struct{ name, typ string }

// maker makes programs by chance that Check takes.
type maker struct {
	*rand.Rand
	names  int
	open   []made         // what can be named, the innermost last
	hiding map[string]int // the globals' names that the function at hand has given to variables, once each
	loops  int
	answer string
}

const madeFront = "struct q{char c;int i;};struct s{char c;long l;int a[3];struct s*n;struct q q;};char g1;int g2;long g3;int g4[4];struct s g5;struct s g6[2];int*g7;char g8[5];"

func madeGlobals() []made {
	return []made{{"g1", "char"}, {"g2", "int"}, {"g3", "long"}, {"g4", "int[4]"}, {"g5", "struct s"}, {"g6", "struct s[2]"}, {"g7", "int*"}, {"g8", "char[5]"}}
}

type head struct {
	name, typ string
	params    []string
}

var madeHeads = []head{{"f0", "int", []string{"int", "long"}}, {"f1", "char", []string{"char", "int*"}}, {"f2", "int*", []string{"int*", "long"}}, {"f3", "void", []string{"struct s*", "int"}}, {"f4", "long", nil}}

func (m *maker) some(l ...string) string { return l[m.Intn(len(l))] }

// name is the name of something of a type, if there is one.
func (m *maker) name(types ...string) (made, bool) {
	var l []made
	for _, v := range m.open {
		if slices.Contains(types, v.typ) {
			l = append(l, v)
		}
	}
	if len(l) == 0 {
		return made{}, false
	}
	return l[m.Intn(len(l))], true
}

func (m *maker) number() string {
	if m.Intn(4) > 0 {
		return fmt.Sprint(m.Intn(4))
	}
	return m.some("7", "31", "32", "63", "127", "128", "255", "256", "2147483647", "2147483648", "0xffffffff", "9223372036854775807")
}

// index is an integer that mostly is a small one.
func (m *maker) index(depth int) string {
	if m.Intn(5) > 0 || depth <= 0 {
		return fmt.Sprint(m.Intn(3))
	}
	return "(" + m.integer(depth-1) + "&1)"
}

// place is one of an integer type.
func (m *maker) place(depth int) string {
	switch m.Intn(8) {
	case 0, 1, 2:
		if v, ok := m.name("char", "int", "long"); ok {
			return v.name
		}
		return "g2"
	case 3:
		return "*" + m.pointer(m.some("int*", "char*", "long*"), depth-1)
	case 4:
		return m.some("g4", "g8", m.pointer("int*", depth-1)) + "[" + m.index(depth-1) + "]"
	case 5:
		return m.record(depth-1) + m.some(".c", ".l", ".q.i", ".a["+m.index(depth-1)+"]")
	case 6:
		return m.pointer("struct s*", depth-1) + m.some("->c", "->l", "->q.c", "->a["+m.index(depth-1)+"]")
	}
	return m.some("g1", "g2", "g3")
}

// record is a place of a struct s.
func (m *maker) record(depth int) string {
	if v, ok := m.name("struct s"); ok && (depth <= 0 || m.Intn(2) == 0) {
		return v.name
	}
	if depth <= 0 {
		return "g5"
	}
	return m.some("g5", "g6["+m.index(depth-1)+"]", "(*"+m.pointer("struct s*", depth-1)+")")
}

func (m *maker) pointer(typ string, depth int) string {
	v, isThere := m.name(typ)
	if depth <= 0 {
		if isThere {
			return v.name
		}
		return "(" + map[string]string{"int*": "g4", "char*": "g8", "struct s*": "&g5", "long*": "&g3"}[typ] + ")"
	}
	switch m.Intn(6) {
	case 0:
		return "(" + m.pointer(typ, depth-1) + m.some("+", "-") + m.index(depth-1) + ")"
	case 1:
		return "(" + m.index(depth-1) + "+" + m.pointer(typ, depth-1) + ")"
	case 2:
		return "((" + typ + ")" + m.pointer(m.some("int*", "char*", "struct s*", "long*"), depth-1) + ")"
	case 3:
		return m.pointed(typ, depth)
	case 4:
		if typ == "int*" {
			return "f2(" + m.pointer("int*", depth-1) + "," + m.integer(depth-1) + ")"
		}
	}
	return m.pointer(typ, 0)
}

// pointed is the address of something.
func (m *maker) pointed(typ string, depth int) string {
	of := strings.TrimSuffix(typ, "*")
	v, isThere := m.name(of, of+"[3]")
	switch {
	case isThere && !strings.HasSuffix(v.typ, "]"):
		return "(&" + v.name + ")"
	case isThere:
		return v.name
	case typ == "int*":
		return "(" + m.some("&"+m.record(depth-1)+".a[1]", m.record(depth-1)+".a", "&g4["+m.index(depth-1)+"]") + ")"
	case typ == "struct s*":
		return m.some("g6", "(&"+m.record(depth-1)+")", m.record(depth-1)+".n")
	}
	return m.pointer(typ, 0)
}

func (m *maker) integer(depth int) string {
	if depth <= 0 {
		if v, ok := m.name("char", "int", "long"); ok && m.Intn(2) == 0 {
			return v.name
		}
		return m.number()
	}
	a := func() string { return m.integer(depth - 1) }
	switch m.Intn(14) {
	case 0, 1, 2:
		return m.place(depth)
	case 3:
		return m.some("-", "~", "!") + "(" + a() + ")"
	case 4, 5:
		return "(" + a() + m.some("+", "-", "*", "&", "|", "^") + a() + ")"
	case 6:
		return "(" + a() + m.some("/ ", "% ") + m.some(a(), "(1|"+a()+")", "7") + ")"
	case 7:
		return "(" + a() + m.some("<<", ">>") + m.some(a(), "(7&"+a()+")", "3") + ")"
	case 8:
		return "(" + a() + m.some("==", "!=", "<", "<=", ">", ">=") + a() + ")"
	case 9:
		return "(" + m.truth(depth-1) + m.some("&&", "||") + m.truth(depth-1) + ")"
	case 10:
		return "(" + m.some("char", "int", "long") + ")(" + a() + ")"
	case 11:
		return m.some("in()", "sizeof(struct s)", "sizeof(int[3])", "!"+m.pointer("int*", depth-1))
	case 12:
		p := m.pointer("int*", depth-1)
		return "(" + p + m.some("==", "!=") + m.some("0", p, m.pointer("int*", depth-1)) + ")"
	}
	return m.some("f0("+a()+","+a()+")", "f1("+a()+","+m.pointer("int*", depth-1)+")", "f4()")
}

func (m *maker) truth(depth int) string {
	if m.Intn(6) == 0 {
		return m.pointer(m.some("int*", "struct s*"), depth)
	}
	return m.integer(depth)
}

// variable is a new one: one of a global's name and type, at times.
func (m *maker) variable() made {
	if g := madeGlobals()[m.Intn(8)]; m.Intn(6) == 0 && m.hiding[g.name] == 0 {
		m.hiding[g.name]++
		return g
	}
	m.names++
	return made{fmt.Sprint("v", m.names), m.some("char", "int", "int", "long", "int*", "struct s*", "char*", "long*", "int[3]", "struct s", "char[3]")}
}

func (m *maker) declaration(depth int) string {
	v := m.variable()
	m.open = append(m.open, v)
	base, count, isArray := strings.Cut(v.typ, "[")
	text := base + " " + v.name
	switch {
	case isArray:
		return text + "[" + count + ";"
	case strings.HasSuffix(v.typ, "*") && m.Intn(8) > 0:
		return text + "=" + m.some("0", m.pointer(v.typ, depth), m.pointer(v.typ, depth)) + ";"
	case !strings.Contains(v.typ, "struct") && !strings.HasSuffix(v.typ, "*") && m.Intn(8) > 0:
		return text + "=" + m.integer(depth) + ";"
	}
	return text + ";"
}

func (m *maker) block(depth int) string {
	before := len(m.open)
	var b strings.Builder
	b.WriteString("{")
	for range 1 + m.Intn(5) {
		if m.Intn(3) == 0 {
			b.WriteString(m.declaration(2))
		} else {
			b.WriteString(m.statement(depth - 1))
		}
	}
	b.WriteString("}")
	m.open = m.open[:before]
	return b.String()
}

func (m *maker) statement(depth int) string {
	if depth > 0 {
		switch m.Intn(9) {
		case 0:
			return "if(" + m.truth(2) + ")" + m.statement(depth-1)
		case 1:
			return "if(" + m.truth(2) + ")" + m.block(depth) + "else " + m.statement(depth-1)
		case 2, 3:
			m.loops++
			s := "while(" + m.truth(2) + ")" + m.statement(depth-1)
			m.loops--
			return s
		case 4:
			return m.block(depth)
		}
	}
	switch m.Intn(12) {
	case 0, 1, 2, 3:
		return m.place(2) + "=" + m.integer(3) + ";"
	case 4:
		if v, ok := m.name("int*", "struct s*", "char*", "long*"); ok {
			return v.name + "=" + m.some("0", m.pointer(v.typ, 3)) + ";"
		}
	case 5:
		return "out(" + m.integer(3) + ");"
	case 6:
		return "f3(" + m.some("0", m.pointer("struct s*", 2)) + "," + m.integer(2) + ");"
	case 7:
		if m.loops > 0 {
			return m.some("break;", "continue;")
		}
	case 8:
		return m.leave()
	case 9:
		return m.some(m.integer(3), m.pointer("char*", 3)) + ";"
	}
	return m.some(";", "out("+m.integer(2)+");")
}

func (m *maker) leave() string {
	switch {
	case m.answer == "void":
		return "return;"
	case strings.HasSuffix(m.answer, "*"):
		return "return " + m.some("0", m.pointer(m.answer, 2)) + ";"
	}
	return "return " + m.integer(3) + ";"
}

func (m *maker) function(h head) string {
	m.open, m.hiding, m.answer = madeGlobals(), map[string]int{}, h.typ
	var params []string
	for i, typ := range h.params {
		name := fmt.Sprint("p", i)
		m.open = append(m.open, made{name, typ})
		params = append(params, typ+" "+name)
	}
	body := m.block(3)
	if h.typ != "void" && m.Intn(8) > 0 {
		body = body[:len(body)-1] + "return 0;}"
	}
	return h.typ + " " + h.name + "(" + strings.Join(params, ",") + ")" + body
}

func (m *maker) program() string {
	var b strings.Builder
	b.WriteString(madeFront)
	for _, h := range madeHeads {
		b.WriteString(m.function(h))
	}
	b.WriteString(m.function(head{"main", m.some("int", "long"), []string{"char", "int", "long"}}))
	return b.String()
}

func same(a, b api.Run) bool {
	return a.Kind == b.Kind && a.Exit == b.Exit && a.Steps == b.Steps && slices.Equal(a.Leaks, b.Leaks) && slices.Equal(a.Events, b.Events)
}

// TestMadePrograms holds runs of programs that are made by chance against the model.
func TestMadePrograms(t *testing.T) {
	r := rand.New(rand.NewSource(8))
	ends := map[int]int{}
	steps := 0
	for range 1000 {
		m := &maker{Rand: r}
		p := compile(t, m.program())
		for range 3 {
			args, world := l(), l()
			for range 3 {
				args = append(args, edges[r.Intn(len(edges))])
			}
			for range r.Intn(6) {
				world = append(world, edges[r.Intn(len(edges))])
			}
			fuel := r.Intn(4000)
			model, want := foretell(p.Tree(), args, world, fuel)
			got := run(t, p, args, world, fuel)
			if !same(got, want) {
				t.Fatalf("P8.1: %s\nwith %v / %v, %d: %+v, want %+v", p.Tree().Text(), args, world, fuel, got, want)
			}
			ends[got.Kind]++
			steps += got.Steps
			for range 4 {
				less := r.Intn(got.Steps + 1)
				if less == got.Steps {
					continue
				}
				if got := run(t, p, args, world, less); !same(got, model.cut(less)) {
					t.Fatalf("P8.2: %s\nwith %v / %v, %d: %+v, want %+v", p.Tree().Text(), args, world, less, got, model.cut(less))
				}
			}
		}
	}
	t.Logf("ends %v, %d steps", ends, steps)
}
