package sample

import (
	"strconv"
	"strings"
)

// index is one of so many elements, a power of two.
func (m *Maker) index(count, depth int) string {
	if m.slip() {
		return m.some("4", "-1", m.secret(depth-1), "9")
	}
	if depth <= 0 || m.pick(3) == 0 {
		return strconv.Itoa(m.pick(count))
	}
	return "(" + m.public(depth-1) + "&" + strconv.Itoa(count-1) + ")"
}

// publicPlace is one of type char or int.
func (m *Maker) publicPlace(depth int) string {
	if v, ok := m.name("char", "int"); ok && (depth <= 0 || m.pick(3) == 0) {
		return v
	}
	if depth <= 0 {
		return m.some("g1", "g2")
	}
	switch m.pick(6) {
	case 0:
		return "*" + m.pointer(m.some("int*", "char*"), depth-1)
	case 1:
		return m.pointer("int*", depth-1) + "[0]"
	case 2:
		return "g4[" + m.index(4, depth-1) + "]"
	case 3:
		return "g8[" + m.index(4, depth-1) + "]"
	case 4:
		return m.record(depth-1) + m.some(".c", ".q.c", ".q.i", ".a["+m.index(4, depth-1)+"]")
	}
	return m.pointer("struct s*", depth-1) + m.some("->c", "->q.c", "->q.i", "->a["+m.index(4, depth-1)+"]")
}

// secretPlace is one of type long.
func (m *Maker) secretPlace(depth int) string {
	if v, ok := m.name("long"); ok && (depth <= 0 || m.pick(3) == 0) {
		return v
	}
	if depth <= 0 {
		return "g3"
	}
	switch m.pick(4) {
	case 0:
		return "*" + m.pointer("long*", depth-1)
	case 1:
		return "g9[" + m.index(2, depth-1) + "]"
	case 2:
		return m.record(depth-1) + m.some(".l", ".b["+m.index(2, depth-1)+"]")
	}
	return m.pointer("struct s*", depth-1) + m.some("->l", "->b["+m.index(2, depth-1)+"]")
}

// record is a place of a struct s.
func (m *Maker) record(depth int) string {
	if v, ok := m.name("struct s"); ok && (depth <= 0 || m.pick(2) == 0) {
		return v
	}
	if depth <= 0 {
		return "g6[1]"
	}
	return m.some("g6["+m.index(2, depth-1)+"]", "(*"+m.pointer("struct s*", depth-1)+")")
}

// pointer is one to the beginning of something that lives as long as the call.
func (m *Maker) pointer(typ string, depth int) string {
	if m.slip() {
		return "((" + typ + ")" + m.some("g7", "((char*)g4+1)", "u0") + ")"
	}
	if depth <= 0 {
		return m.nearPointer(typ)
	}
	p := m.pointer(typ, depth-1)
	n := m.number()
	switch m.pick(9) {
	case 0:
		return "(" + p + "+" + n + "-" + n + ")"
	case 1:
		return "(" + n + "+" + p + "-" + n + ")"
	case 2:
		return "((" + m.public(depth-1) + "&0)+" + p + ")"
	case 3:
		return "((" + typ + ")" + m.some("(void*)", "(char*)") + p + ")"
	case 4:
		return m.some("(&*"+p+")", "(&"+p+"[0])")
	case 5:
		return m.pointed(typ, depth)
	case 6:
		i := m.public(0) // it comes to the same each time
		return "(" + p + "-" + n + "+(" + i + "&1)+" + n + "-(" + i + "&1))"
	case 7:
		if s, ok := m.call(typ, depth); ok {
			return s
		}
	}
	return m.nearPointer(typ)
}

// nearPointer is one that is at hand.
func (m *Maker) nearPointer(typ string) string {
	if v, ok := m.name(typ); ok {
		return v
	}
	switch typ {
	case "int*":
		return "g4"
	case "char*":
		return "g8"
	case "long*":
		return "g9"
	}
	return "g6"
}

// pointed is the address of something.
func (m *Maker) pointed(typ string, depth int) string {
	of := strings.TrimSuffix(typ, "*")
	if v, ok := m.name(of); ok && m.pick(2) == 0 {
		return "(&" + v + ")"
	}
	if v, ok := m.name(of+"[2]", of+"[3]", of+"[4]"); ok && m.pick(2) == 0 {
		return v
	}
	switch typ {
	case "int*":
		return "(" + m.some("&"+m.record(depth-1)+".a["+m.index(4, depth-1)+"]", m.record(depth-1)+".a", "&g4["+m.index(4, depth-1)+"]", "&"+m.pointer("struct s*", depth-1)+"->q.i") + ")"
	case "char*":
		return "(" + m.some("&"+m.record(depth-1)+".c", "&"+m.record(depth-1)+".q.c", "&g8["+m.index(4, depth-1)+"]") + ")"
	case "long*":
		return "(" + m.some("&"+m.record(depth-1)+".l", m.record(depth-1)+".b", "&g9["+m.index(2, depth-1)+"]") + ")"
	}
	return "(&" + m.record(depth-1) + ")"
}
