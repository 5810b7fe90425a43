package ladder

import (
	"strings"
	"testing"

	"plumbob/api"
	"plumbob/ltl"
	"plumbob/rtl"
	"plumbob/sample"
)

// TestLocated: all sources of sample come down; many have fewer nodes, when they are made shorter.
func TestLocated(t *testing.T) {
	shorter := 0
	for _, tale := range sample.Tales() {
		source, long, e := Located(tale.Text, false)
		again, short, f := Located(tale.Text, true)
		if e != api.OK || f != api.OK || source == nil || again == nil || !ltl.Good(long) || !ltl.Good(short) {
			t.Fatalf("%s: %d, %d: %sshorter: %s", tale.Text, e, f, rtl.Text(long), rtl.Text(short))
		}
		if nodes(short) < nodes(long) {
			shorter++
		}
	}
	if shorter < 50 {
		t.Errorf("%d are shorter", shorter)
	}
}

func nodes(p rtl.Prog) int {
	count := 0
	for _, f := range p.Funcs {
		count += len(f.Code)
	}
	return count
}

func TestErrors(t *testing.T) {
	for text, want := range map[string]api.Errno{
		"int main(){@}": api.ELEX, "int main(": api.ESYNTAX, "int main(){return x;}": api.ETYPE, "void k(long a){" + strings.Repeat("out(a);", 5000) + "}int main(){return 0;}": api.ELIMIT,
		"void f(long a,long b){}void k(long a,long b){" + strings.Repeat("f(b,a);", 2000) + "}int main(){return 0;}": api.ELIMIT,
	} {
		if source, p, e := Located(text, true); e != want || len(p.Funcs) > 0 || source != nil {
			t.Errorf("%.60s: %d, want %d", text, e, want)
		}
	}
}
