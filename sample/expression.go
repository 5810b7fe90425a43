package sample

import (
	"strconv"
	"strings"
)

// number is a NUMBER of type int.
func (m *Maker) number() string {
	if m.pick(4) > 0 {
		return strconv.Itoa(m.pick(5))
	}
	return m.some("7", "31", "32", "63", "127", "128", "255", "256", "65535", "65536", "2147483647")
}

// constant is an expression that comes to the same whatever is given: powers of two, and numbers at which types turn.
func (m *Maker) constant() string {
	switch m.pick(4) {
	case 0:
		return m.number()
	case 1:
		return "(-" + m.number() + ")"
	case 2:
		return m.some("1", "2", "8", "4096", "1073741824", "sizeof(struct s)", "(1<<4)", "(3-2)", "!0")
	}
	return m.some("2147483648", "(-2147483648)", "(-2147483649)", "4294967295", "4294967296", "0x4000000000000000", "9223372036854775807", "(-9223372036854775807)", "(-9223372036854775807-1)")
}

// operands are two with a mark between: one of them may be a constant.
func (m *Maker) operands(x, mark, y string) string {
	switch m.pick(5) {
	case 0:
		x = m.constant()
	case 1:
		y = m.constant()
	}
	return "(" + x + mark + y + ")"
}

// asked is a comparison of two, as it is or turned into its opposite.
func (m *Maker) asked(x, y string) string {
	e := m.operands(x, m.some("==", "!=", "<", "<=", ">", ">="), y)
	return m.some(e, e, "!"+e, "("+e+"==0)", "(0!="+e+")", "!!"+e)
}

// call is one of a function that answers a type, if there is one that can be called.
func (m *Maker) call(typ string, depth int) (string, bool) {
	var l []head
	for _, h := range m.calls {
		if h.typ == typ {
			l = append(l, h)
		}
	}
	if len(l) == 0 {
		return "", false
	}
	h := l[m.pick(len(l))]
	var args []string
	for _, p := range h.params {
		args = append(args, m.value(p, min(depth-1, 2)))
	}
	return h.name + "(" + strings.Join(args, ",") + ")", true
}

// value is one that fits a type.
func (m *Maker) value(typ string, depth int) string {
	switch typ {
	case "small":
		return "(" + m.public(depth) + "&3)"
	case "char", "int":
		return m.public(depth)
	case "long":
		return m.secret(depth)
	}
	return m.pointer(typ, depth)
}

// public is an integer that hangs on nothing secret.
func (m *Maker) public(depth int) string {
	if m.slip() {
		return m.some("(int)("+m.secret(depth-1)+")", "u1", "("+m.public(depth-1)+"/(g1&1))", "("+m.public(depth-1)+"<<"+m.public(depth-1)+")")
	}
	if depth <= 0 {
		if v, ok := m.name("char", "int"); ok && m.pick(2) == 0 {
			return v
		}
		return m.number()
	}
	a := func() string { return m.public(depth - 1) }
	switch m.pick(13) {
	case 0, 1, 2:
		return m.publicPlace(depth)
	case 3:
		return m.some("-", "~", "!") + "(" + a() + ")"
	case 4, 5:
		return m.operands(a(), m.some("+", "-", "*", "&", "|", "^"), a())
	case 6:
		return "(" + a() + m.some("/ ", "% ") + m.some("(1|"+a()+")", "1", "3", "8", "(-1)", "(-2)", "(-7)", "65536", "4294967296") + ")"
	case 7:
		return "(" + a() + m.some("<<", ">>") + m.some("(31&"+a()+")", "0", "1", "31") + ")"
	case 8:
		return m.asked(a(), a())
	case 9:
		return m.logic(depth)
	case 10:
		return "(" + m.some("char", "int") + ")(" + a() + ")"
	case 11:
		p := m.pointer("int*", depth-1)
		return m.some("sizeof(struct s)", "sizeof(int[3])", "!"+p, "("+p+"==0)", "(g4+"+m.index(4, 0)+"!=g4+1)")
	}
	if s, ok := m.call(m.some("int", "char"), depth); ok {
		return s
	}
	return a()
}

func (m *Maker) logic(depth int) string {
	e := "(" + m.truth(depth-1) + m.some("&&", "||") + m.truth(depth-1) + ")"
	return m.some(e, e, "!"+e, "("+e+"==0)", "!!"+e)
}

// truth is what a branch may ask.
func (m *Maker) truth(depth int) string {
	switch m.pick(6) {
	case 0:
		return m.pointer(m.some("int*", "struct s*"), depth)
	case 1:
		return m.asked(m.public(depth-1), m.public(depth-1))
	}
	return m.public(depth)
}

// secret is any integer.
func (m *Maker) secret(depth int) string {
	if m.slip() {
		return m.some("u2", "("+m.secret(depth-1)+"/3)", "(long)u1", "("+m.secret(depth-1)+"&&1)")
	}
	if depth <= 0 {
		if v, ok := m.name("long"); ok && m.pick(3) > 0 {
			return v
		}
		return m.some(m.public(0), "9223372036854775807", "0xffffffff")
	}
	a := func() string { return m.secret(depth - 1) }
	switch m.pick(11) {
	case 0, 1, 2:
		return m.secretPlace(depth)
	case 3:
		return m.some("-", "~", "!") + "(" + a() + ")"
	case 4, 5:
		return m.operands(a(), m.some("+", "-", "*", "&", "|", "^"), a())
	case 6:
		return m.some("("+a(), "((long)"+a()+"*1") + m.some("<<", ">>") + m.some("(31&"+a()+")", "0", "1", "31") + ")"
	case 7:
		return m.asked(a(), a())
	case 8:
		return "(" + m.some("char", "int", "long") + ")(" + a() + ")"
	case 9:
		if s, ok := m.call("long", depth); ok {
			return s
		}
	}
	return m.some("in()", m.public(depth-1))
}
