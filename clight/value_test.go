package clight

import (
	"fmt"
	"math"
	"strings"
	"testing"

	"plumbob/api"
)

// edges are numbers at which the types turn.
var edges = []int64{
	0, 1, 2, 3, 7, 31, 32, 63, 64, 100, 127, 128, 129, 200, 255, 256, 300, 1<<31 - 1, 1 << 31, 1<<31 + 1, 1<<32 - 1, 1 << 32, 1<<32 + 5, 1 << 40, math.MaxInt64,
	-1, -2, -7, -31, -127, -128, -129, -256, -1 << 31, -1<<31 - 1, -1 << 32, -1<<63 + 1, math.MinInt64,
}

// as makes a number one of a type.
func as(typ string, n int64) int64 {
	switch typ {
	case "char":
		return int64(int8(n))
	case "int":
		return int64(int32(n))
	}
	return n
}

var integers = []string{"char", "int", "long"}

// TestConversions has all ways by which a value is given another type.
func TestConversions(t *testing.T) {
	for _, a := range integers {
		for _, b := range integers {
			for _, pattern := range []string{
				"long main(long x){A a=x;B b=a;return b;}",
				"long main(A a){B b;b=a;return b;}",
				"long main(A a){return (B)a;}",
				"B f(A a){return a;}long main(long x){return f(x);}",
				"long f(B b){return b;}long main(A a){return f(a);}",
				"B g;long main(A a){g=a;return g;}",
				"long main(A a){B b=a;B*p=&b;return *p;}",
				"long main(A a){B b[2];b[1]=a;return b[1];}",
				"struct s{char c;B b;};long main(A a){struct s x;x.b=a;return x.b;}",
				"long f(B b){&b;return b;}long main(A a){return f(a);}",
			} {
				p := compile(t, strings.ReplaceAll(strings.ReplaceAll(pattern, "A ", a+" "), "B", b))
				for _, n := range edges {
					want := as(b, as(a, n))
					if r := run(t, p, l(n), nil, 1000); r.Kind != api.Halt || r.Exit != want {
						t.Errorf("P8.1: %s with %d: %s, want %d", p.Tree().Text(), n, ending(r), want)
					}
				}
			}
		}
	}
	for _, c := range []struct{ result, param string }{{"int", "char"}, {"int", "int"}, {"int", "long"}, {"long", "long"}} {
		p := compile(t, c.result+" main("+c.param+" a){return a;}")
		for _, n := range edges {
			if r := run(t, p, l(n), nil, 1000); r.Kind != api.Halt || r.Exit != as(c.result, as(c.param, n)) {
				t.Errorf("P8.1: %s with %d: %s", p.Tree().Text(), n, ending(r))
			}
		}
	}
}

// join is the type that two numbers are reckoned in.
func join(a, b string) string {
	if a == "long" || b == "long" {
		return "long"
	}
	return "int"
}

func truth(isTrue bool) int64 {
	if isTrue {
		return 1
	}
	return 0
}

// reckoned tells what an operation on two numbers of types comes to, and whether it has a meaning.
func reckoned(op, left, right string, a, b int64) (int64, bool) {
	typ := join(left, right)
	switch op {
	case "+":
		return as(typ, a+b), true
	case "-":
		return as(typ, a-b), true
	case "*":
		return as(typ, a*b), true
	case "&":
		return a & b, true
	case "|":
		return a | b, true
	case "^":
		return a ^ b, true
	case "/", "%":
		if b == 0 || a == math.MinInt64 && b == -1 {
			return 0, false
		}
		if op == "/" {
			return as(typ, a/b), true
		}
		return a % b, true
	case "<<", ">>":
		typ = join(left, "char")
		if b < 0 || typ == "int" && b > 31 || b > 63 {
			return 0, false
		}
		if op == "<<" {
			return as(typ, a<<b), true
		}
		return a >> b, true
	}
	return truth(map[string]bool{"==": a == b, "!=": a != b, "<": a < b, "<=": a <= b, ">": a > b, ">=": a >= b}[op]), true
}

// TestIntegers has each operation on two integers, of each two types, at their edges.
func TestIntegers(t *testing.T) {
	for _, op := range []string{"+", "-", "*", "/", "%", "&", "|", "^", "<<", ">>", "==", "!=", "<", "<=", ">", ">="} {
		for _, left := range integers {
			for _, right := range integers {
				p := compile(t, fmt.Sprintf("long main(%s a,%s b){return a%sb;}", left, right, op))
				for _, x := range edges {
					for _, y := range edges {
						a, b := as(left, x), as(right, y)
						n, ok := reckoned(op, left, right, a, b)
						want := "stuck"
						if ok {
							want = fmt.Sprint("halt ", n)
						}
						if op == "/" || op == "%" {
							want = fmt.Sprintf("d%d/%d %s", a, b, want)
						}
						r, e := Run(p, l(x, y), nil, 5)
						if told := strings.TrimSpace(items(r, api.Run{}) + " " + ending(r)); e != api.OK || told != want || r.Steps != 5 {
							t.Errorf("P8.1: %s %d %s %s %d: %s, want %s", left, a, op, right, b, told, want)
						}
					}
				}
			}
		}
	}
}

// TestUnary has each operation on one integer.
func TestUnary(t *testing.T) {
	for _, typ := range integers {
		for _, op := range []string{"-", "~", "!"} {
			p := compile(t, fmt.Sprintf("long main(%s a){return %sa;}", typ, op))
			for _, x := range edges {
				a := as(typ, x)
				want := map[string]int64{"-": as(join(typ, "char"), -a), "~": ^a, "!": truth(a == 0)}[op]
				if r := run(t, p, l(x), nil, 4); r.Kind != api.Halt || r.Exit != want {
					t.Errorf("P8.1: %s of %s %d: %s, want %d", op, typ, a, ending(r), want)
				}
			}
		}
	}
}

// TestTruths has what is asked for its truth, of each type.
func TestTruths(t *testing.T) {
	for _, typ := range integers {
		for _, pattern := range []string{
			"int main(T a){if(a)return 1;return 0;}", "int main(T a){while(a)return 1;return 0;}", "int main(T a){return a&&1;}", "int main(T a){return 1&&a;}", "int main(T a){return a||0;}", "int main(T a){return 0||a;}", "int main(T a){return !!a;}",
		} {
			p := compile(t, strings.ReplaceAll(pattern, "T", typ))
			for _, x := range edges {
				want := truth(as(typ, x) != 0)
				if r := run(t, p, l(x), nil, 100); r.Kind != api.Halt || r.Exit != want || len(r.Leaks) > 0 && r.Leaks[len(r.Leaks)-1] != (api.Leak{Kind: api.Branch, A: want}) && r.Leaks[0] != (api.Leak{Kind: api.Branch, A: want}) {
					t.Errorf("P8.1: %s with %d: %+v", p.Tree().Text(), x, r)
				}
			}
		}
	}
}

// TestNumbers: a number is an int as long as it can be, and sizeof is one ever.
func TestNumbers(t *testing.T) {
	outs(t, []tale{
		{"long main(){return 2147483647+1;}", nil, nil, "halt -2147483648"},
		{"long main(){return 2147483648+1;}", nil, nil, "halt 2147483649"},
		{"long main(){return -2147483648;}", nil, nil, "halt -2147483648"},
		{"long main(){return -2147483648*2;}", nil, nil, "halt -4294967296"},
		{"long main(){return -2147483647*2;}", nil, nil, "halt 2"},
		{"long main(){return 1<<31;}", nil, nil, "halt -2147483648"},
		{"long main(){return (long)1<<31;}", nil, nil, "halt 2147483648"},
		{"long main(){return 1<<(long)3;}", nil, nil, "halt 8"},
		{"long main(){return ~0;}", nil, nil, "halt -1"},
		{"long main(){return 0xffffffff;}", nil, nil, "halt 4294967295"},
		{"int main(){return 0xffffffff;}", nil, nil, "halt -1"},
		{"long main(){return -9223372036854775807-1;}", nil, nil, "halt -9223372036854775808"},
		{"long main(){return 9223372036854775807+1;}", nil, nil, "halt -9223372036854775808"},
		{"long main(){return sizeof(int)*1073741824;}", nil, nil, "halt 0"},
		{"long main(){return (sizeof(int)<<30)*2;}", nil, nil, "halt 0"},
		{"long main(){return in()*in();}", nil, l(1<<31, 4), "i2147483648 i4 halt 8589934592"},
		{"int main(){out(in());out((int)in());out((char)in());return in();}", nil, l(1<<40, 1<<31, 128, 1<<32+9), "i1099511627776 o1099511627776 i2147483648 o-2147483648 i128 o-128 i4294967305 halt 9"},
		{"int main(char c){out(c);out(c+0);out(-c);out(c<<1);return ~c;}", l(-128), nil, "o-128 o-128 o128 o-256 halt 127"},
	})
}

func TestSizes(t *testing.T) {
	structs := "struct p{char c;int i;char d;long l;};struct q{char c[3];};struct r{struct q q;int*p;struct p x[2];};"
	for typ, want := range map[string]int{
		"char": 1, "int": 4, "long": 8, "void*": 8, "char*": 8, "struct r*": 8, "char[7]": 7, "int[5]": 20, "long[2]": 16, "char*[3]": 24,
		"struct p": 24, "struct q": 3, "struct q[3]": 9, "struct r": 64, "struct p[2]": 48, "char[65536]": 65536,
	} {
		outs(t, []tale{{structs + "int main(){return sizeof(" + typ + ");}", nil, nil, fmt.Sprint("halt ", want)}})
	}
}

// TestWorld: what comes in comes in order, and behind the last one 0.
func TestWorld(t *testing.T) {
	text := "int main(){while(in()!=7);return in();}"
	deeds(t, []tale{
		{text, nil, l(1, 2, 7, 9, 5), "b1 b1 b0 i1 i2 i7 i9 halt 9"},
		{text, nil, l(7), "b0 i7 i0 halt 0"},
		{"int main(){in();in();return in();}", nil, nil, "i0 i0 i0 halt 0"},
		{"int main(){return 0&&in()||in();}", nil, l(math.MinInt64), "b0 b0 b1 i-9223372036854775808 halt 1"},
	})
}
