package sample

import (
	"slices"
	"strconv"
	"strings"
)

// declaration has a variable with a value, or an array or a struct and statements that give it all of its.
func (m *Maker) declaration(depth int) string {
	typ := m.some("char", "int", "int", "long", "long", "int*", "struct s*", "char*", "long*", "int[4]", "struct s", "char[3]", "long[2]")
	v := variable{m.fresh("v"), typ}
	if g := globals()[m.pick(8)]; m.pick(8) == 0 && g.typ == typ && !slices.Contains(m.hidden, g.name) {
		v.name = g.name
		m.hidden = append(m.hidden, g.name)
	}
	text := m.declared(v, depth)
	m.open = append(m.open, v)
	return text
}

func (m *Maker) declared(v variable, depth int) string {
	base, count, isArray := strings.Cut(v.typ, "[")
	text := base + " " + v.name
	switch {
	case isArray:
		text += "[" + count + ";"
		for i := range strings.Index("01234", strings.TrimSuffix(count, "]")) {
			text += v.name + "[" + strconv.Itoa(i) + "]=" + m.value(base, depth-1) + ";"
		}
		return text
	case v.typ == "struct s":
		fields := strings.ReplaceAll("~.q.c=1;~.q.i=P;~.c=P;~.l=S;~.a[0]=1;~.a[1]=P;~.a[2]=2;~.a[3]=3;~.n=0;~.b[0]=S;~.b[1]=S;", "~", v.name)
		return text + ";" + strings.ReplaceAll(strings.ReplaceAll(fields, "P", m.public(depth-1)), "S", m.secret(depth-1))
	}
	return text + "=" + m.value(v.typ, depth) + ";"
}

func (m *Maker) block(depth int) string {
	before := len(m.open)
	var b strings.Builder
	b.WriteString("{")
	for range 1 + m.pick(4) {
		if m.pick(3) == 0 {
			b.WriteString(m.declaration(2))
		} else {
			b.WriteString(m.statement(depth - 1))
		}
	}
	b.WriteString("}")
	m.open = m.open[:before]
	return b.String()
}

// repeated is a loop that mostly ends.
func (m *Maker) repeated(depth int) string {
	m.loops++
	defer func() { m.loops-- }()
	if m.pick(8) == 0 {
		return "while(" + m.truth(2) + ")" + m.block(depth)
	}
	i := m.fresh("i")
	count := strconv.Itoa(1 + m.pick(4))
	test := m.some(i+"<"+count, count+">"+i, "!("+i+">="+count+")", i+"<"+count+"&&"+m.truth(1), "!("+i+">="+count+"||!"+m.asked(m.public(1), m.public(1))+")")
	return "{int " + i + "=0;while(" + test + "){" + i + "=" + i + "+1;" + m.block(depth) + "}}"
}

func (m *Maker) statement(depth int) string {
	if depth > 0 {
		switch m.pick(8) {
		case 0:
			return "if(" + m.truth(2) + ")" + m.statement(depth-1)
		case 1:
			return "if(" + m.truth(2) + ")" + m.block(depth) + "else " + m.statement(depth-1)
		case 2:
			return m.repeated(depth)
		case 3:
			return m.block(depth)
		}
	}
	return m.simple()
}

// simple is a statement without others in it, mostly.
func (m *Maker) simple() string {
	switch m.pick(13) {
	case 0, 1:
		return m.publicPlace(2) + "=" + m.public(3) + ";"
	case 2, 3, 4:
		return m.secretPlace(2) + "=" + m.secret(3) + ";"
	case 5:
		typ := m.some("int*", "struct s*", "char*", "long*")
		if v, ok := m.name(typ); ok {
			return v + "=" + m.pointer(typ, 3) + ";"
		}
	case 6:
		return "out(" + m.some(m.public(3), m.secret(3)) + ");"
	case 7:
		if s, ok := m.call("void", 3); ok {
			return s + ";"
		}
	case 8:
		if m.loops > 0 {
			return m.some("break;", "continue;", "if("+m.truth(1)+")break;")
		}
	case 9:
		if m.pick(3) == 0 {
			return m.leave()
		}
	case 10:
		return m.some(m.secret(3), m.pointer("char*", 3), "u1") + ";"
	}
	return m.some(";", "out("+m.secret(2)+");", "u2=u2;")
}

// leave answers no pointer to what ends with the call.
func (m *Maker) leave() string {
	switch {
	case m.answer == "void":
		return "return;"
	case strings.HasSuffix(m.answer, "*"):
		return "return p0;"
	}
	return "return " + m.value(m.answer, 3) + ";"
}
