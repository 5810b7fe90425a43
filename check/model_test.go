package check

import (
	"fmt"
	"math/rand"
	"regexp"
	"slices"
	"strings"
	"testing"

	"plumbob/api"
	"plumbob/ast"
)

// The model has the chapter's table of expressions row by row, over types that it reads by a pattern, and is held against all of a list of expressions by twos, and against nested ones made by chance.

const front = "struct t{int i;char c[4];};struct s{char c;int i;long l;struct s*n;int a[3];struct t t;struct t*pt;void*w;struct t ts[2];};" +
	"int g;long h[4];struct s gs;char*gp;" +
	"int f(int a,char*p){return a;}void v(){}char k(){return 0;}long m(int a){return a;}int*pf(){return 0;}struct s*sf(struct s*p){return p;}void*wf(){return 0;}"

const variables = "char c;int x;long l;char*r;int*q;void*w;void**ww;int**qq;struct s*ps;struct t*pt;struct s s;struct t t;int a[5];char b[3];int*qa[2];struct s sa[2];void*wa[2];"

var fieldsOf = map[string]map[string]string{
	"struct t": {"i": "int", "c": "char[4]"},
	"struct s": {"c": "char", "i": "int", "l": "long", "n": "struct s*", "a": "int[3]", "t": "struct t", "pt": "struct t*", "w": "void*", "ts": "struct t[2]"},
}

// sample is an expression, and what it is by the chapter; one that breaks a rule has no type.
type sample struct {
	text    string
	typ     string
	isPlace bool
	isZero  bool
}

func placeOf(text, typ string) sample { return sample{text: text, typ: typ, isPlace: true} }

func zero(text string) sample { return sample{text: text, typ: "int", isZero: true} }

func samples() []sample {
	l := []sample{
		placeOf("c", "char"), placeOf("x", "int"), placeOf("l", "long"), placeOf("g", "int"),
		placeOf("r", "char*"), placeOf("q", "int*"), placeOf("w", "void*"), placeOf("ww", "void**"), placeOf("qq", "int**"), placeOf("ps", "struct s*"), placeOf("pt", "struct t*"), placeOf("gp", "char*"),
		placeOf("a", "int[5]"), placeOf("b", "char[3]"), placeOf("h", "long[4]"), placeOf("qa", "int*[2]"), placeOf("sa", "struct s[2]"), placeOf("wa", "void*[2]"), placeOf("s.a", "int[3]"), placeOf("ps->ts", "struct t[2]"),
		placeOf("s", "struct s"), placeOf("gs", "struct s"), placeOf("*ps", "struct s"), placeOf("sa[1]", "struct s"), placeOf("s.t", "struct t"), placeOf("*ps->ts", "struct t"),
		placeOf("*q", "int"), placeOf("**qq", "int"), placeOf("*qq", "int*"), placeOf("*ww", "void*"), placeOf("*b", "char"), placeOf("h[x]", "long"), placeOf("s.n", "struct s*"), placeOf("ps->n->c", "char"), placeOf("(s)", "struct s"), placeOf("(x)", "int"),
		zero("0"), zero("(0)"), zero("((0x00))"),
		{text: "1", typ: "int"}, {text: "2147483647", typ: "int"}, {text: "2147483648", typ: "long"}, {text: "9223372036854775807", typ: "long"},
		{text: "-0", typ: "int"}, {text: "(int)0", typ: "int"}, {text: "(char)0", typ: "char"}, {text: "0+0", typ: "int"}, {text: "!q", typ: "int"},
		{text: "in()", typ: "long"}, {text: "sizeof(long)", typ: "int"}, {text: "f(1,0)", typ: "int"}, {text: "k()", typ: "char"}, {text: "m(2)", typ: "long"}, {text: "pf()", typ: "int*"}, {text: "sf(0)", typ: "struct s*"}, {text: "wf()", typ: "void*"}, {text: "v()", typ: "void"},
		{text: "&x", typ: "int*"}, {text: "&s", typ: "struct s*"}, {text: "&qq", typ: "int***"}, {text: "a+1", typ: "int*"}, {text: "(void*)q", typ: "void*"},
		{text: "y"}, {text: "f"}, {text: "z()"},
	}
	return l
}

var typePattern = regexp.MustCompile(`^(char|int|long|void|struct [a-z]+)(\**)(\[[0-9]+\])?$`)

// modelElem tells what an array, or a pointer, is of.
func modelElem(typ string) string {
	m := typePattern.FindStringSubmatch(typ)
	switch {
	case m == nil:
		return ""
	case m[3] != "":
		return m[1] + m[2]
	case m[2] != "":
		return m[1] + m[2][1:]
	}
	return ""
}

func isModelInteger(s sample) bool { return slices.Contains([]string{"char", "int", "long"}, s.typ) }

func isModelPointer(s sample) bool { return strings.HasSuffix(s.typ, "*") }

// modelValue tells what it is where a value is wanted.
func modelValue(s sample) sample {
	if strings.HasSuffix(s.typ, "]") {
		return sample{typ: modelElem(s.typ) + "*"}
	}
	if !isModelInteger(s) && !isModelPointer(s) {
		return sample{}
	}
	return sample{typ: s.typ, isZero: s.isZero}
}

// steps tells whether it is a pointer to a type that has a size.
func steps(s sample) bool { return isModelPointer(s) && s.typ != "void*" }

func modelJoin(a, b sample) string {
	if a.typ == "long" || b.typ == "long" {
		return "long"
	}
	return "int"
}

func modelFits(e sample, typ string) bool {
	e = modelValue(e)
	to := sample{typ: typ}
	return isModelInteger(e) && isModelInteger(to) || isModelPointer(to) && (e.isZero || e.typ == typ)
}

// either gives the type back if what is asked for it holds.
func either(typ string, isRight bool) string {
	if isRight {
		return typ
	}
	return ""
}

var operators = strings.Fields("* / % & ^ | + - << >> < <= > >= == != && ||")

func modelBinary(op string, x, y sample) sample {
	a, b := modelValue(x), modelValue(y)
	areIntegers := isModelInteger(a) && isModelInteger(b)
	typ := ""
	switch {
	case a.typ == "" || b.typ == "":
	case strings.Contains("* / % & ^ |", op):
		typ = either(modelJoin(a, b), areIntegers)
	case areIntegers && strings.Contains("+ -", op):
		typ = modelJoin(a, b)
	case strings.Contains("+ -", op) && steps(a):
		typ = either(a.typ, isModelInteger(b))
	case op == "+" && steps(b):
		typ = either(b.typ, isModelInteger(a))
	case strings.Contains("<< >>", op) && len(op) == 2:
		typ = either(modelJoin(a, sample{typ: "char"}), areIntegers)
	case strings.Contains("< <= > >=", op):
		typ = either("int", areIntegers)
	case strings.Contains("== !=", op):
		typ = either("int", areIntegers || isModelPointer(a) && a.typ == b.typ || isModelPointer(a) && b.isZero || a.isZero && isModelPointer(b))
	case strings.Contains("&& ||", op):
		typ = "int"
	}
	return sample{text: "(" + x.text + ")" + op + "(" + y.text + ")", typ: typ}
}

func modelUnary(op string, x sample) sample {
	v := modelValue(x)
	s := sample{text: op + "(" + x.text + ")"}
	switch op {
	case "-", "~":
		s.typ = either(modelJoin(v, sample{typ: "char"}), isModelInteger(v))
	case "!":
		s.typ = either("int", v.typ != "")
	case "*":
		s.typ = either(modelElem(v.typ), steps(v))
		s.isPlace = s.typ != ""
	case "&":
		s.typ = either(x.typ+"*", x.isPlace && !strings.HasSuffix(x.typ, "]"))
	}
	return s
}

func modelIndex(x, y sample) sample {
	v := modelValue(x)
	typ := either(modelElem(v.typ), steps(v) && isModelInteger(modelValue(y)))
	return sample{text: "(" + x.text + ")[" + y.text + "]", typ: typ, isPlace: typ != ""}
}

func modelMember(x sample, op, name string) sample {
	record := ""
	switch {
	case op == ".":
		record = either(x.typ, x.isPlace)
	case isModelPointer(modelValue(x)):
		record = modelElem(modelValue(x).typ)
	}
	typ := fieldsOf[record][name]
	return sample{text: "(" + x.text + ")" + op + name, typ: typ, isPlace: typ != ""}
}

// castTypes are those of the grammar; the last ones are none, or may not be cast to.
var castTypes = []string{"char", "int", "long", "char*", "int*", "long**", "void*", "void**", "struct s*", "struct t***", "void", "struct s", "struct u", "struct u*"}

func modelCast(to string, x sample) sample {
	v, t := modelValue(x), sample{typ: to}
	isRight := isModelInteger(t) && isModelInteger(v) || isModelPointer(t) && isModelPointer(v) && to != "struct u*"
	return sample{text: "(" + to + ")(" + x.text + ")", typ: either(to, isRight)}
}

// callees are the types that the functions of front answer, and their parameters'.
var callees = map[string][]string{"f": {"int", "int", "char*"}, "v": {"void"}, "k": {"char"}, "m": {"long", "int"}, "pf": {"int*"}, "sf": {"struct s*", "struct s*"}, "wf": {"void*"}}

func modelCall(name string, arguments ...sample) sample {
	types := callees[name]
	isRight := len(types) == len(arguments)+1
	var texts []string
	for i, a := range arguments {
		isRight = isRight && modelFits(a, types[i+1])
		texts = append(texts, a.text)
	}
	typ := ""
	if isRight {
		typ = types[0]
	}
	return sample{text: name + "(" + strings.Join(texts, ",") + ")", typ: typ}
}

// within lays statements into a function of a program.
func within(statements string) string {
	return front + "int main(){" + variables + statements + "return 0;}"
}

// eachOf lays statements into few programs, and hands each one to look, behind the front and the variables.
func eachOf(t *testing.T, texts []string, look func(c *checker, n *ast.Node, i int)) {
	t.Helper()
	skipped := strings.Count(variables, ";")
	for from := 0; from < len(texts); from += 400 {
		some := texts[from:min(from+400, len(texts))]
		tree := parsed(t, within(strings.Join(some, "")))
		c := newChecker(tree)
		c.rules()
		body := c.functions[len(c.functions)-1].body.Parts()
		if c.here != c.functions[len(c.functions)-1] || len(body) != skipped+len(some)+1 {
			t.Fatalf("P7.1: the front is refused: %d at %v", c.e, c.fault)
		}
		for i := range some {
			c.e = api.OK
			look(c, body[skipped+i], from+i)
		}
	}
}

// hold asks of each sample what the checker finds it to be, and whether Check takes it as a statement: of some wrong ones, since each is a program of its own.
func hold(t *testing.T, l []sample) {
	t.Helper()
	var texts []string
	var right strings.Builder
	for _, s := range l {
		texts = append(texts, s.text+";")
	}
	eachOf(t, texts, func(c *checker, n *ast.Node, i int) {
		s := l[i]
		got := c.expression(n.Parts()[0])
		if got != (typed{s.typ, s.isPlace, s.isZero}) || (c.e == api.OK) != (s.typ != "") {
			t.Errorf("P7.1: %s: %+v, %d, want %+v", s.text, got, c.e, s)
		}
		if typ := c.notes.typeOf(n.Parts()[0]); typ != s.typ {
			t.Errorf("P7.1: %s is noted as %q, want %q", s.text, typ, s.typ)
		}
		isValue := modelValue(s).typ != "" || s.typ == "void"
		switch {
		case isValue && right.Len() < api.MaxText/4:
			right.WriteString(s.text + ";")
		case isValue:
			taken(t, within(right.String()))
			right.Reset()
			right.WriteString(s.text + ";")
		case i%7 == 0 || len(l) < 500:
			refused(t, within(s.text+";"), api.ETYPE)
		}
	})
	taken(t, within(right.String()))
}

func TestSamples(t *testing.T) { hold(t, samples()) }

func TestBinary(t *testing.T) {
	var l []sample
	for _, a := range samples() {
		for _, b := range samples() {
			for _, op := range operators {
				l = append(l, modelBinary(op, a, b))
			}
		}
	}
	hold(t, l)
}

func TestUnaryAndCast(t *testing.T) {
	var l []sample
	for _, a := range samples() {
		for _, op := range []string{"-", "~", "!", "*", "&"} {
			l = append(l, modelUnary(op, a))
		}
		for _, typ := range castTypes {
			l = append(l, modelCast(typ, a))
		}
	}
	hold(t, l)
}

func TestIndexAndMember(t *testing.T) {
	var l []sample
	for _, a := range samples() {
		for _, b := range samples() {
			l = append(l, modelIndex(a, b))
		}
		for _, name := range []string{"c", "i", "l", "n", "a", "t", "pt", "w", "ts", "z", "s", "x"} {
			l = append(l, modelMember(a, ".", name), modelMember(a, "->", name))
		}
	}
	hold(t, l)
}

func TestCalls(t *testing.T) {
	var l []sample
	for name := range callees {
		l = append(l, modelCall(name))
		for _, a := range samples() {
			l = append(l, modelCall(name, a))
			for _, b := range samples() {
				l = append(l, modelCall(name, a, b))
			}
		}
		l = append(l, modelCall(name, zero("0"), zero("0"), zero("0")))
	}
	slices.SortFunc(l, func(a, b sample) int { return strings.Compare(a.text, b.text) })
	hold(t, l)
}

// anySample is one that is made of others, and is wrong seldom enough to be nested.
func anySample(r *rand.Rand, l []sample, depth int) sample {
	if depth == 0 {
		return l[r.Intn(len(l))]
	}
	some := func() sample { return anySample(r, l, r.Intn(depth)) }
	s := sample{}
	for range 4 {
		switch r.Intn(8) {
		case 0, 1, 2:
			s = modelBinary(operators[r.Intn(len(operators))], some(), some())
		case 3:
			s = modelUnary([]string{"-", "~", "!", "*", "&"}[r.Intn(5)], some())
		case 4:
			s = modelCast(castTypes[r.Intn(len(castTypes))], some())
		case 5:
			s = modelIndex(some(), some())
		case 6:
			s = modelMember(some(), []string{".", "->"}[r.Intn(2)], []string{"c", "i", "n", "a", "t", "ts"}[r.Intn(6)])
		case 7:
			s = modelCall([]string{"f", "m", "sf"}[r.Intn(3)], []sample{some(), some()}[:1+r.Intn(2)]...)
		}
		if s.typ != "" {
			break
		}
	}
	return s
}

func TestNestedExpressions(t *testing.T) {
	r := rand.New(rand.NewSource(7))
	var l []sample
	right := 0
	for range 12000 {
		s := anySample(r, samples(), 5)
		if len(s.text) < 100 {
			l = append(l, s)
		}
		if s.typ != "" {
			right++
		}
	}
	if right < 3000 || right > 11000 {
		t.Errorf("%d of 12000 are right: too few of one kind to tell much", right)
	}
	hold(t, l)
}

// holdStatements asks of each statement whether it breaks a rule.
func holdStatements(t *testing.T, texts []string, isRight []bool) {
	t.Helper()
	eachOf(t, texts, func(c *checker, n *ast.Node, i int) {
		c.statement(n)
		want := api.ETYPE
		if isRight[i] {
			want = api.OK
		}
		if c.e != want {
			t.Errorf("P7.1: %s: %d, want %d", texts[i], c.e, want)
		}
		switch {
		case i%5 > 0 && len(texts) > 500:
		case isRight[i]:
			taken(t, within(texts[i]))
		default:
			refused(t, within(texts[i]), api.ETYPE)
		}
	})
}

// scalars are the types that a parameter may have.
var scalars = []string{"char", "int", "long", "char*", "int*", "void*", "void**", "int***", "struct s*", "struct t*"}

func TestAssignments(t *testing.T) {
	var texts []string
	var isRight []bool
	for _, e := range samples() {
		for _, p := range samples() {
			texts = append(texts, p.text+"="+e.text+";")
			isRight = append(isRight, p.isPlace && modelFits(e, p.typ))
		}
	}
	holdStatements(t, texts, isRight)
}

func TestFirstValues(t *testing.T) {
	var texts []string
	var isRight []bool
	for _, e := range samples() {
		for _, typ := range append([]string{"struct s", "void", "struct u*"}, scalars...) {
			texts = append(texts, fmt.Sprintf("%s y%d=%s;", typ, len(texts), e.text))
			isRight = append(isRight, typ != "struct u*" && modelFits(e, typ))
		}
	}
	holdStatements(t, texts, isRight)
}

func TestConditionsAndOut(t *testing.T) {
	var texts []string
	var isRight []bool
	for _, e := range samples() {
		v := modelValue(e)
		texts = append(texts, "if("+e.text+");", "if("+e.text+");else;", "while("+e.text+");", "out("+e.text+");")
		isRight = append(isRight, v.typ != "", v.typ != "", v.typ != "", isModelInteger(v))
	}
	holdStatements(t, texts, isRight)
}

func TestReturns(t *testing.T) {
	for _, typ := range append([]string{"void"}, scalars...) {
		for _, e := range samples() {
			text := front + typ + " fun(){" + variables + "return " + e.text + ";}int main(){return 0;}"
			if modelFits(e, typ) {
				taken(t, text)
			} else {
				refused(t, text, api.ETYPE)
			}
		}
	}
}
