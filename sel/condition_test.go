package sel

import (
	"fmt"
	"strings"
	"testing"

	"plumbob/api"
)

// turnings are ways to ask a comparison and its opposite.
var turnings = []string{"E", "!E", "!!E", "E==0", "0==E", "E!=0", "0!=E", "!(E==0)", "(E!=0)==0", "E==1", "E+E", "(char)E", "E&&E", "E||!E", "!(E&&!E)", "!(!E||E)&&E", "(E&&b)==0", "!!(E||b)", "0!=(b&&E)"}

// TestComparisons has comparisons in branches and as values, turned round and negated.
func TestComparisons(t *testing.T) {
	for _, op := range []string{"==", "!=", "<", "<=", ">", ">="} {
		for _, e := range []string{"(a" + op + "b)", "(a" + op + "3)", "(3" + op + "a)", "(a" + op + "2147483648)", "(-2147483648" + op + "a)", "((int)a" + op + "(char)b)"} {
			for _, turning := range turnings {
				asked := strings.ReplaceAll(turning, "E", e)
				c := trioOf(t, fmt.Sprintf("int main(long a,long b){out(%s);if(%s)out(1);else out(2);while(%s){out(3);break;}if(%s)return 4;return 5;}", asked, asked, asked, asked))
				for i, a := range edges {
					for _, b := range []int64{a, 3, edges[(i*7+3)%len(edges)]} {
						if r := c.holds(l(a, b), nil, 1000); r.Kind != api.Halt {
							t.Errorf("P8.1: %s: %s", c.text, end(r))
						}
					}
				}
			}
		}
	}
}

// TestConditions has what a branch asks: integers, pointers, constants, and what is made of them.
func TestConditions(t *testing.T) {
	texts := []string{"a", "p", "q", "k", "1", "0", "2", "a+1", "a-1", "-a", "~a", "a*2", "a&1", "in()", "f(a)", "k[1]", "*p", "k+1", "p==k", "p!=k", "p==q", "q==0", "0!=p", "p+1==k", "(long)a", "(char)(a*64)", "sizeof(int)"}
	for _, first := range texts {
		for _, turning := range []string{"(E)", "!(E)", "!!(E)", "!(E)==0"} {
			for _, second := range []string{"", "&&b", "||b", "&&!(b>2)", "||(b&&a)"} {
				asked := strings.ReplaceAll(turning, "E", first) + second
				c := trioOf(t, fmt.Sprintf("int k[2];int f(int a){out(a);return a;}int main(int a,int b){int*p=k;int*q=0;k[1]=b;out(!!(%s));if(%s)out(1);while(!(%s)){out(2);break;}return 0;}", asked, asked, asked))
				for n := range int64(9) {
					if r := c.holds(l(n%3-1, n/3), l(n, 0, 1), 1000); r.Kind != api.Halt {
						t.Errorf("P8.1: %s: %s", c.text, end(r))
					}
				}
			}
		}
	}
}

// TestLogic: what is not asked for is not evaluated, in whatever way it is turned.
func TestLogic(t *testing.T) {
	c := trioOf(t, "int f(int a){out(a);return a;}int main(int a,int b,int c){out(f(a)&&f(b)||f(c));out(f(a)||f(b)&&f(c));out(!(f(a)&&!f(b)));if(f(a)&&(f(b)||f(c)))out(7);if(!(f(a)||!(f(b)&&f(c))))out(8);while(!(!f(a)||!f(b))){a=a-1;b=b-1;}return (a||b)+(b&&c)*2+!(a&&b&&c)*4;}")
	for n := range int64(27) {
		c.ends(l(n%3, n/3%3, n/9), nil, end(c.told(l(n%3, n/3%3, n/9), nil, 10000)))
	}
}

// TestBranches tells what branches show: each comparison that is asked its own outcome, and what is made of them nothing more.
func TestBranches(t *testing.T) {
	for _, c := range []struct{ text, want string }{
		{"if(a<3)return 1;return 2;", "b1 b0"}, {"if(!(a<3))return 1;return 2;", "b0 b1"}, {"if(a)return 1;return 2;", "b0 b1"}, {"if(!a)return 1;return 2;", "b1 b0"},
		{"return a<3;", " "}, {"return !a;", " "}, {"return !!a;", " "}, {"return (a==3)==0;", " "}, {"return a*8+a*3+a/1*0;", "d0/1 d5/1"},
		{"return a&&a<9;", "b0 b1 b1"}, {"return a||a<9;", "b0 b1 b1"}, {"return !(a&&a<9);", "b1 b0 b0"}, {"if(a&&a<9)return 1;return 2;", "b0 b1 b1"}, {"if(!(a||a>9))return 1;return 2;", "b1 b1 b0"}, {"if(a||a>9)return 1;return 2;", "b0 b0 b1"}, {"while(!(a&&a>9))return 1;return 2;", "b1 b0 b1"}, {"while(a&&1)return 1;return 2;", "b0 b1 b1"},
	} {
		p := trioOf(t, "int main(int a){"+c.text+"}")
		s := tellLeaks(p.run(l(0), nil, 100).Leaks) + " " + tellLeaks(p.run(l(5), nil, 100).Leaks)
		if s != c.want {
			t.Errorf("P11.1: %s leaks %q, want %q", p.text, s, c.want)
		}
	}
}
