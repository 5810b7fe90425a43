// Package sample: sources for the tests of all levels: some that are written here, and others made by choices that are handed in.
package sample

import (
	"slices"
	"strconv"
	"strings"
)

// Maker makes sources. What is of type char or int, and all pointers, hang on main's first two arguments alone, which are public; what is of type long hangs on the other two, too, and on what comes in. So nothing of type long is asked by a branch, an index or a division, unless it slips: then a source may leak what is secret, or be Stuck.
type Maker struct {
	pick   func(int) int
	slips  int
	names  int
	open   []variable // what can be named, the innermost last
	loops  int
	answer string
	calls  []head // the functions that can be called
	hidden []string
}

// variable is one that can be named.
type variable struct{ name, typ string }

// head is how a function begins.
type head struct {
	name, typ string
	params    []string
}

// front has the structs and globals of all sources.
const front = "struct q{char c;int i;};struct s{struct q q;char c;long l;int a[4];struct s*n;long b[2];};char g1;int g2;long g3;int g4[4];struct s g5;struct s g6[2];int*g7;char g8[5];long g9[3];"

// New makes a maker. pick chooses a number from 0 on that is less than its argument. One of so many expressions slips; 0: none.
func New(pick func(int) int, slips int) *Maker { return &Maker{pick: pick, slips: slips} }

// Program makes a source, whose main has four parameters: a char, an int and two longs.
func (m *Maker) Program() string {
	var b strings.Builder
	b.WriteString(front)
	for i, h := range heads() {
		if m.pick(2) == 0 {
			continue
		}
		h.name = "f" + strconv.Itoa(i)
		b.WriteString(m.function(h))
		m.calls = append(m.calls, h)
	}
	b.WriteString(m.function(head{"main", m.some("int", "long"), []string{"char", "int", "long", "long"}}))
	return b.String()
}

// heads are those of the functions beside main. A parameter that is small is one by which a function that calls itself ends.
func heads() []head {
	return []head{
		{"", "int", []string{"int", "long"}}, {"", "char", []string{"char", "int*"}}, {"", "int*", []string{"int*", "long"}}, {"", "void", []string{"struct s*", "int", "long*"}},
		{"", "long", []string{"long", "small"}}, {"", "struct s*", []string{"struct s*", "int"}}, {"", "long", []string{"char*", "long", "char", "int"}},
	}
}

func globals() []variable {
	return []variable{{"g1", "char"}, {"g2", "int"}, {"g3", "long"}, {"g4", "int[4]"}, {"g5", "struct s"}, {"g6", "struct s[2]"}, {"g8", "char[5]"}, {"g9", "long[3]"}}
}

func (m *Maker) some(l ...string) string { return l[m.pick(len(l))] }

func (m *Maker) slip() bool { return m.slips > 0 && m.pick(m.slips) == 0 }

// name is the name of something of one of some types, if there is one.
func (m *Maker) name(types ...string) (string, bool) {
	var l []string
	for _, v := range m.open {
		if slices.Contains(types, v.typ) {
			l = append(l, v.name)
		}
	}
	if len(l) == 0 {
		return "", false
	}
	return l[m.pick(len(l))], true
}

// fresh is a name that no other thing has.
func (m *Maker) fresh(letter string) string {
	m.names++
	return letter + strconv.Itoa(m.names)
}

// function writes one, the first parameter of which is of its answer's type, if that is a pointer.
func (m *Maker) function(h head) string {
	m.open, m.hidden, m.answer = globals(), nil, h.typ
	var params []string
	again := ""
	for i, typ := range h.params {
		name := "p" + strconv.Itoa(i)
		if typ == "small" {
			typ, again = "int", name
		} else {
			m.open = append(m.open, variable{name, typ})
		}
		params = append(params, typ+" "+name)
	}
	body := m.block(3)
	if again != "" {
		body = "{" + m.recursion(h, again) + body + "}"
	}
	return h.typ + " " + h.name + "(" + strings.Join(params, ",") + "){int*u0;int u1;long u2;" + body + m.leave() + "}"
}

// recursion has a function call itself, as long as its last parameter is above 0.
func (m *Maker) recursion(h head, again string) string {
	var args []string
	for _, typ := range h.params[:len(h.params)-1] {
		args = append(args, m.value(typ, 2))
	}
	args = append(args, again)
	return "if(" + again + ">0){" + again + "=" + again + "-1;out(" + h.name + "(" + strings.Join(args, ",") + "));}"
}
