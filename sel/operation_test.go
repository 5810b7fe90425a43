package sel

import (
	"fmt"
	"strings"
	"testing"

	"plumbob/api"
)

// TestConstantsOnEitherSide has each operation on a variable and a constant, at the edges of both, in each type.
func TestConstantsOnEitherSide(t *testing.T) {
	halts := 0
	for _, op := range []string{"+", "-", "*", "/", "%", "&", "|", "^", "<<", ">>", "==", "!=", "<", "<=", ">", ">=", "&&", "||"} {
		for _, typ := range integers {
			for _, k := range edges {
				for _, e := range []string{"a" + op + written(k), written(k) + op + "a"} {
					c := trioOf(t, fmt.Sprintf("long main(%s a){return %s;}", typ, e))
					for _, a := range edges {
						if c.holds(l(a), nil, 9).Kind == api.Halt {
							halts++
						}
					}
				}
			}
		}
	}
	if halts < 100000 {
		t.Errorf("P11.1: but %d runs that halt", halts)
	}
}

// TestOperations has each one on two variables.
func TestOperations(t *testing.T) {
	for _, op := range []string{"+", "-", "*", "/", "%", "&", "|", "^", "<<", ">>", "==", "!=", "<", "<=", ">", ">="} {
		for _, typ := range integers {
			c := trioOf(t, fmt.Sprintf("long main(%s a,long b){return a%sb;}", typ, op))
			for _, a := range edges {
				for _, b := range edges {
					c.holds(l(a, b), nil, 9)
				}
			}
		}
	}
	for _, typ := range integers {
		for _, e := range []string{"-a", "~a", "!a", "!!a", "-~a", "(char)-a", "(int)-a", "(long)-a", "-(char)a", "(char)(a*2)", "(int)(a+1)", "(char)(a<3)", "-(a==3)", "~!a"} {
			c := trioOf(t, fmt.Sprintf("long main(%s a){return %s;}", typ, e))
			for _, a := range edges {
				if r := c.holdsThroughout(l(a), nil); r.Kind != api.Halt {
					t.Errorf("P8.1: %s with %d: %s", c.text, a, end(r))
				}
			}
		}
	}
}

// TestPowersOfTwo has multiplications and divisions by each, by its opposite and by its neighbours.
func TestPowersOfTwo(t *testing.T) {
	for i := range 64 {
		for _, k := range []int64{1 << i, -(1 << i), 1<<i + 1, 1<<i - 1, 1 - 1<<i} {
			for _, pattern := range []string{"a*K", "K*a", "(int)a*K", "a/K", "a%K", "(int)a/K", "(int)a%K", "K/a", "K%a"} {
				c := trioOf(t, "long main(long a){return "+strings.ReplaceAll(pattern, "K", written(k))+";}")
				for _, a := range edges {
					r := c.holds(l(a), nil, 12)
					if r.Kind == api.Fuel {
						t.Errorf("P8.1: %s: %s", c.text, end(r))
					}
				}
			}
		}
	}
}

// TestDivisions: a division by a constant stays one, with what it shows, and is no branch.
func TestDivisions(t *testing.T) {
	for _, k := range edges {
		for _, op := range []string{"/", "%"} {
			c := trioOf(t, "long main(long a){return a"+op+written(k)+";}")
			for _, a := range edges {
				want := fmt.Sprintf("d%d/%d", a, k)
				if s := tellLeaks(c.run(l(a), nil, 1000).Leaks); s != want {
					t.Errorf("P11.1: %s with %d leaks %q, want %q", c.text, a, s, want)
				}
				if r := c.run(l(a), nil, 1000); (r.Kind == api.Stuck) != (k == 0 || k == -1 && a == -1<<63) {
					t.Errorf("P11.1: %s with %d: %s", c.text, a, end(r))
				}
			}
		}
	}
}

// TestShifts has each count.
func TestShifts(t *testing.T) {
	for k := int64(-3); k < 68; k++ {
		for _, pattern := range []string{"a<<K", "a>>K", "(int)a<<K", "(int)a>>K", "(char)a>>K", "(a<<K)>>K", "1<<K", "(a+1)<<K"} {
			c := trioOf(t, "long main(long a){return "+strings.ReplaceAll(pattern, "K", written(k))+";}")
			for _, a := range edges {
				source, made := c.holds(l(a), nil, 12), c.run(l(a), nil, 1000)
				if (k < 0 || k > 63) && (source.Kind != api.Stuck || made.Kind != api.Stuck) {
					t.Errorf("P11.1: %s: %s, the source %s", c.text, end(made), end(source))
				}
			}
		}
	}
}

// TestSumsOfConstants has several constants in one sum, which may come together, also beyond what fits.
func TestSumsOfConstants(t *testing.T) {
	some := []int64{0, 1, -1, 5, 1<<31 - 1, 1 << 31, -1 << 31, -1<<31 - 1, 1 << 40, 1<<63 - 1, -1 << 63}
	for _, pattern := range []string{"a+K+L", "a-K-L", "K+a-L", "K-a+L", "K-(a+L)", "(a+K)+(b+L)", "(a-K)-(b-L)", "a+(K+(b+L))", "(a+K)*L", "(a*K)+L", "(int)(a+K)+L", "a+K==b+L", "(a+K)+(K+b)+L", "-(a+K)+L", "(a+K&L)+K"} {
		for _, k := range some {
			for _, m := range some {
				c := trioOf(t, "long main(long a,long b){return "+strings.NewReplacer("K", written(k), "L", written(m)).Replace(pattern)+";}")
				for i, a := range edges {
					if r := c.holds(l(a, edges[(i*7+3)%len(edges)]), nil, 40); r.Kind != api.Halt {
						t.Errorf("P8.1: %s: %s", c.text, end(r))
					}
				}
			}
		}
	}
}
