package cmin

import (
	"fmt"
	"math/rand"
	"slices"
	"strings"
)

// made is a variable that can be named.
type made struct{ name, typ string }

// maker makes programs by chance. What is of type char or int, and all pointers, hang on public arguments alone; what is of type long hangs on secret ones too, and on what comes in. So nothing of type long is asked by a branch, an index or a division, unless it slips: then a program may leak what is secret, or be Stuck.
type maker struct {
	*rand.Rand
	slips  int // one of so many expressions slips; 0: none
	names  int
	open   []made // what can be named, the innermost last
	loops  int
	answer string
	calls  []head // the functions that can be called
	hidden []string
}

type head struct {
	name, typ string
	params    []string
}

const madeFront = "struct q{char c;int i;};struct s{struct q q;char c;long l;int a[4];struct s*n;long b[2];};char g1;int g2;long g3;int g4[4];struct s g5;struct s g6[2];int*g7;char g8[5];long g9[3];"

func madeGlobals() []made {
	return []made{{"g1", "char"}, {"g2", "int"}, {"g3", "long"}, {"g4", "int[4]"}, {"g5", "struct s"}, {"g6", "struct s[2]"}, {"g8", "char[5]"}, {"g9", "long[3]"}}
}

func (m *maker) some(l ...string) string { return l[m.Intn(len(l))] }

func (m *maker) slip() bool { return m.slips > 0 && m.Intn(m.slips) == 0 }

// name is the name of something of one of some types, if there is one.
func (m *maker) name(types ...string) (string, bool) {
	var l []string
	for _, v := range m.open {
		if slices.Contains(types, v.typ) {
			l = append(l, v.name)
		}
	}
	if len(l) == 0 {
		return "", false
	}
	return l[m.Intn(len(l))], true
}

func (m *maker) number() string {
	if m.Intn(4) > 0 {
		return fmt.Sprint(m.Intn(5))
	}
	return m.some("7", "31", "32", "63", "127", "128", "255", "256", "65535", "2147483647")
}

// index is one of so many elements, a power of two.
func (m *maker) index(count, depth int) string {
	if m.slip() {
		return m.some("4", "-1", m.secret(depth-1), "9")
	}
	if depth <= 0 || m.Intn(3) == 0 {
		return fmt.Sprint(m.Intn(count))
	}
	return fmt.Sprintf("(%s&%d)", m.public(depth-1), count-1)
}

// publicPlace is one of type char or int.
func (m *maker) publicPlace(depth int) string {
	if v, ok := m.name("char", "int"); ok && (depth <= 0 || m.Intn(3) == 0) {
		return v
	}
	if depth <= 0 {
		return m.some("g1", "g2")
	}
	switch m.Intn(6) {
	case 0:
		return "*" + m.pointer(m.some("int*", "char*"), depth-1)
	case 1:
		return m.pointer("int*", depth-1) + "[0]"
	case 2:
		return "g4[" + m.index(4, depth-1) + "]"
	case 3:
		return "g8[" + m.index(4, depth-1) + "]"
	case 4:
		return m.record(depth-1) + m.some(".c", ".q.c", ".q.i", ".a["+m.index(4, depth-1)+"]")
	}
	return m.pointer("struct s*", depth-1) + m.some("->c", "->q.c", "->q.i", "->a["+m.index(4, depth-1)+"]")
}

// secretPlace is one of type long.
func (m *maker) secretPlace(depth int) string {
	if v, ok := m.name("long"); ok && (depth <= 0 || m.Intn(3) == 0) {
		return v
	}
	if depth <= 0 {
		return "g3"
	}
	switch m.Intn(4) {
	case 0:
		return "*" + m.pointer("long*", depth-1)
	case 1:
		return "g9[" + m.index(2, depth-1) + "]"
	case 2:
		return m.record(depth-1) + m.some(".l", ".b["+m.index(2, depth-1)+"]")
	}
	return m.pointer("struct s*", depth-1) + m.some("->l", "->b["+m.index(2, depth-1)+"]")
}

// record is a place of a struct s.
func (m *maker) record(depth int) string {
	if v, ok := m.name("struct s"); ok && (depth <= 0 || m.Intn(2) == 0) {
		return v
	}
	if depth <= 0 {
		return "g6[1]"
	}
	return m.some("g6["+m.index(2, depth-1)+"]", "(*"+m.pointer("struct s*", depth-1)+")")
}

// pointer is one to the beginning of something that lives as long as the call.
func (m *maker) pointer(typ string, depth int) string {
	if m.slip() {
		return "((" + typ + ")" + m.some("g7", "((char*)g4+1)", "u0") + ")"
	}
	v, isThere := m.name(typ)
	if depth <= 0 {
		if isThere {
			return v
		}
		return map[string]string{"int*": "g4", "char*": "g8", "struct s*": "g6", "long*": "g9"}[typ]
	}
	p := func() string { return m.pointer(typ, depth-1) }
	switch m.Intn(8) {
	case 0:
		n := m.number()
		return "(" + p() + "+" + n + "-" + n + ")"
	case 1:
		n := m.number()
		return "(" + n + "+" + p() + "-" + n + ")"
	case 2:
		return "((" + m.public(depth-1) + "&0)+" + p() + ")"
	case 3:
		return "((" + typ + ")" + m.some("(void*)", "(char*)") + p() + ")"
	case 4:
		return m.some("(&*"+p()+")", "(&"+p()+"[0])")
	case 5:
		return m.pointed(typ, depth)
	case 6:
		if s, ok := m.call(typ, depth); ok {
			return s
		}
	}
	return m.pointer(typ, 0)
}

// pointed is the address of something.
func (m *maker) pointed(typ string, depth int) string {
	of := strings.TrimSuffix(typ, "*")
	if v, ok := m.name(of); ok && m.Intn(2) == 0 {
		return "(&" + v + ")"
	}
	if v, ok := m.name(of+"[2]", of+"[3]", of+"[4]"); ok && m.Intn(2) == 0 {
		return v
	}
	switch typ {
	case "int*":
		return "(" + m.some("&"+m.record(depth-1)+".a["+m.index(4, depth-1)+"]", m.record(depth-1)+".a", "&g4["+m.index(4, depth-1)+"]", "&"+m.pointer("struct s*", depth-1)+"->q.i") + ")"
	case "char*":
		return "(" + m.some("&"+m.record(depth-1)+".c", "&"+m.record(depth-1)+".q.c", "&g8["+m.index(4, depth-1)+"]") + ")"
	case "long*":
		return "(" + m.some("&"+m.record(depth-1)+".l", m.record(depth-1)+".b", "&g9["+m.index(2, depth-1)+"]") + ")"
	}
	return "(&" + m.record(depth-1) + ")"
}

// call is one of a function that answers a type, if there is one that can be called.
func (m *maker) call(typ string, depth int) (string, bool) {
	var l []head
	for _, h := range m.calls {
		if h.typ == typ {
			l = append(l, h)
		}
	}
	if len(l) == 0 {
		return "", false
	}
	h := l[m.Intn(len(l))]
	var args []string
	for _, p := range h.params {
		args = append(args, m.value(p, min(depth-1, 2)))
	}
	return h.name + "(" + strings.Join(args, ",") + ")", true
}

// value is one that fits a type.
func (m *maker) value(typ string, depth int) string {
	switch typ {
	case "small":
		return "(" + m.public(depth) + "&3)"
	case "char", "int":
		return m.public(depth)
	case "long":
		return m.secret(depth)
	}
	return m.pointer(typ, depth)
}

// public is an integer of type char or int.
func (m *maker) public(depth int) string {
	if m.slip() {
		return m.some("(int)("+m.secret(depth-1)+")", "u1", "("+m.public(depth-1)+"/(g1&1))", "("+m.public(depth-1)+"<<"+m.public(depth-1)+")")
	}
	if depth <= 0 {
		if v, ok := m.name("char", "int"); ok && m.Intn(2) == 0 {
			return v
		}
		return m.number()
	}
	a := func() string { return m.public(depth - 1) }
	switch m.Intn(13) {
	case 0, 1, 2:
		return m.publicPlace(depth)
	case 3:
		return m.some("-", "~", "!") + "(" + a() + ")"
	case 4, 5:
		return "(" + a() + m.some("+", "-", "*", "&", "|", "^") + a() + ")"
	case 6:
		return "(" + a() + m.some("/ ", "% ") + "(1|" + a() + "))"
	case 7:
		return "(" + a() + m.some("<<", ">>") + "(31&" + a() + "))"
	case 8:
		return "(" + a() + m.some("==", "!=", "<", "<=", ">", ">=") + a() + ")"
	case 9:
		return "(" + m.truth(depth-1) + m.some("&&", "||") + m.truth(depth-1) + ")"
	case 10:
		return "(" + m.some("char", "int") + ")(" + a() + ")"
	case 11:
		p := m.pointer("int*", depth-1)
		return m.some("sizeof(struct s)", "sizeof(int[3])", "!"+p, "("+p+"==0)", "(g4+"+m.index(4, 0)+"!=g4+1)")
	}
	if s, ok := m.call(m.some("int", "char"), depth); ok {
		return s
	}
	return a()
}

// truth is what a branch may ask.
func (m *maker) truth(depth int) string {
	if m.Intn(6) == 0 {
		return m.pointer(m.some("int*", "struct s*"), depth)
	}
	return m.public(depth)
}

// secret is any integer.
func (m *maker) secret(depth int) string {
	if m.slip() {
		return m.some("u2", "("+m.secret(depth-1)+"/3)", "(long)u1", "("+m.secret(depth-1)+"&&1)")
	}
	if depth <= 0 {
		if v, ok := m.name("long"); ok && m.Intn(3) > 0 {
			return v
		}
		return m.some(m.public(0), "9223372036854775807", "0xffffffff")
	}
	a := func() string { return m.secret(depth - 1) }
	switch m.Intn(11) {
	case 0, 1, 2:
		return m.secretPlace(depth)
	case 3:
		return m.some("-", "~", "!") + "(" + a() + ")"
	case 4, 5:
		return "(" + a() + m.some("+", "-", "*", "&", "|", "^") + a() + ")"
	case 6:
		return "(" + a() + m.some("<<", ">>") + "(31&" + a() + "))"
	case 7:
		return "(" + a() + m.some("==", "!=", "<", "<=", ">", ">=") + a() + ")"
	case 8:
		return "(" + m.some("char", "int", "long") + ")(" + a() + ")"
	case 9:
		if s, ok := m.call("long", depth); ok {
			return s
		}
	}
	return m.some("in()", m.public(depth-1))
}

// declaration has a variable with a value, or an array or a struct and statements that give it all of its.
func (m *maker) declaration(depth int) string {
	typ := m.some("char", "int", "int", "long", "long", "int*", "struct s*", "char*", "long*", "int[4]", "struct s", "char[3]", "long[2]")
	m.names++
	v := made{fmt.Sprint("v", m.names), typ}
	if g := madeGlobals()[m.Intn(8)]; m.Intn(8) == 0 && g.typ == typ && !slices.Contains(m.hidden, g.name) {
		v.name = g.name
		m.hidden = append(m.hidden, g.name)
	}
	base, count, isArray := strings.Cut(typ, "[")
	text := base + " " + v.name
	switch {
	case isArray:
		text += "[" + count + ";"
		for i := range strings.Index("01234", strings.TrimSuffix(count, "]")) {
			text += fmt.Sprintf("%s[%d]=%s;", v.name, i, m.value(base, depth-1))
		}
	case typ == "struct s":
		text += ";" + strings.ReplaceAll("~.q.c=1;~.q.i=P;~.c=P;~.l=S;~.a[0]=1;~.a[1]=P;~.a[2]=2;~.a[3]=3;~.n=0;~.b[0]=S;~.b[1]=S;", "~", v.name)
		text = strings.ReplaceAll(strings.ReplaceAll(text, "P", m.public(depth-1)), "S", m.secret(depth-1))
	default:
		text += "=" + m.value(typ, depth) + ";"
	}
	m.open = append(m.open, v)
	return text
}

func (m *maker) block(depth int) string {
	before := len(m.open)
	var b strings.Builder
	b.WriteString("{")
	for range 1 + m.Intn(4) {
		if m.Intn(3) == 0 {
			b.WriteString(m.declaration(2))
		} else {
			b.WriteString(m.statement(depth - 1))
		}
	}
	b.WriteString("}")
	m.open = m.open[:before]
	return b.String()
}

// repeated is a loop that mostly ends.
func (m *maker) repeated(depth int) string {
	m.names++
	m.loops++
	defer func() { m.loops-- }()
	if m.Intn(8) == 0 {
		return "while(" + m.truth(2) + ")" + m.block(depth)
	}
	i := fmt.Sprint("i", m.names)
	return fmt.Sprintf("{int %s=0;while(%s<%d%s){%s=%s+1;%s}}", i, i, 1+m.Intn(4), m.some("", "&&"+m.truth(1)), i, i, m.block(depth))
}

func (m *maker) statement(depth int) string {
	if depth > 0 {
		switch m.Intn(8) {
		case 0:
			return "if(" + m.truth(2) + ")" + m.statement(depth-1)
		case 1:
			return "if(" + m.truth(2) + ")" + m.block(depth) + "else " + m.statement(depth-1)
		case 2:
			return m.repeated(depth)
		case 3:
			return m.block(depth)
		}
	}
	switch m.Intn(13) {
	case 0, 1:
		return m.publicPlace(2) + "=" + m.public(3) + ";"
	case 2, 3, 4:
		return m.secretPlace(2) + "=" + m.secret(3) + ";"
	case 5:
		typ := m.some("int*", "struct s*", "char*", "long*")
		if v, ok := m.name(typ); ok {
			return v + "=" + m.pointer(typ, 3) + ";"
		}
	case 6:
		return "out(" + m.some(m.public(3), m.secret(3)) + ");"
	case 7:
		if s, ok := m.call("void", 3); ok {
			return s + ";"
		}
	case 8:
		if m.loops > 0 {
			return m.some("break;", "continue;", "if("+m.truth(1)+")break;")
		}
	case 9:
		if m.Intn(3) == 0 {
			return m.leave()
		}
	case 10:
		return m.some(m.secret(3), m.pointer("char*", 3), "u1") + ";"
	}
	return m.some(";", "out("+m.secret(2)+");", "u2=u2;")
}

// leave answers no pointer to what ends with the call.
func (m *maker) leave() string {
	switch {
	case m.answer == "void":
		return "return;"
	case strings.HasSuffix(m.answer, "*"):
		return "return p0;"
	}
	return "return " + m.value(m.answer, 3) + ";"
}

// function writes one, the first parameter of which is its answer's type, if that is a pointer. One that calls itself ends by its last parameter.
func (m *maker) function(h head) string {
	m.open, m.hidden, m.answer = madeGlobals(), nil, h.typ
	var params []string
	again := ""
	for i, typ := range h.params {
		name := fmt.Sprint("p", i)
		if typ == "small" {
			typ, again = "int", name
		} else {
			m.open = append(m.open, made{name, typ})
		}
		params = append(params, typ+" "+name)
	}
	body := m.block(3)
	if again != "" {
		m.names++
		var args []string
		for _, typ := range h.params[:len(h.params)-1] {
			args = append(args, m.value(typ, 2))
		}
		body = fmt.Sprintf("{if(%s>0){%s=%s-1;out(%s(%s,%s));}%s}", again, again, again, h.name, strings.Join(args, ","), again, body)
	}
	return fmt.Sprintf("%s %s(%s){int*u0;int u1;long u2;%s%s}", h.typ, h.name, strings.Join(params, ","), body, m.leave())
}

func (m *maker) program() string {
	var b strings.Builder
	b.WriteString(madeFront)
	for i, h := range []head{{"", "int", []string{"int", "long"}}, {"", "char", []string{"char", "int*"}}, {"", "int*", []string{"int*", "long"}}, {"", "void", []string{"struct s*", "int", "long*"}}, {"", "long", []string{"long", "small"}}, {"", "struct s*", []string{"struct s*", "int"}}, {"", "long", []string{"char*", "long", "char", "int"}}} {
		if m.Intn(2) == 0 {
			continue
		}
		h.name = fmt.Sprint("f", i)
		b.WriteString(m.function(h))
		m.calls = append(m.calls, h)
	}
	b.WriteString(m.function(head{"main", m.some("int", "long"), []string{"char", "int", "long", "long"}}))
	return b.String()
}
