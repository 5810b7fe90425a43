package sample

import (
	"math/rand"
	"strings"
	"testing"

	"plumbob/api"
	"plumbob/ast"
	"plumbob/check"
)

// TestPrograms: all are programs; of the same choices they are the same; and all together have each kind of node.
func TestPrograms(t *testing.T) {
	seen := map[int]int{}
	for seed := range int64(300) {
		text := New(rand.New(rand.NewSource(seed)).Intn, int(seed%3*60)).Program()
		if New(rand.New(rand.NewSource(seed)).Intn, int(seed%3*60)).Program() != text {
			t.Fatalf("%s, and once more it is another", text)
		}
		tree, at, e := ast.Parse(text)
		if e != api.OK {
			t.Fatalf("%s: %d at %v", text, e, at)
		}
		p, at, e := check.Check(tree)
		if e != api.OK {
			t.Fatalf("%s: %d at %v", text, e, at)
		}
		if s := strings.Join(p.Main().Params, " "); s != "char int long long" {
			t.Errorf("%s: main's parameters: %s", text, s)
		}
		for _, n := range tree.Parts() {
			count(n, seen)
		}
	}
	for kind := ast.Struct; kind <= ast.Sizeof; kind++ {
		if seen[kind] == 0 {
			t.Errorf("no node of kind %d", kind)
		}
	}
}

func count(n *ast.Node, seen map[int]int) {
	seen[n.Kind()]++
	for _, part := range n.Parts() {
		count(part, seen)
	}
}
