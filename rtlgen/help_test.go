package rtlgen

import (
	"fmt"
	"math/rand"
	"slices"
	"strings"
	"testing"

	"plumbob/api"
	"plumbob/ast"
	"plumbob/check"
	"plumbob/clight"
	"plumbob/cmin"
	"plumbob/rtl"
	"plumbob/sel"
	"plumbob/trace"
)

// edges are numbers at which the types and shifts turn.
var edges = []int64{
	0, 1, 2, 3, 7, 8, 31, 32, 63, 64, 127, 128, 255, 256, 1000, 1<<31 - 1, 1 << 31, 1<<32 - 1, 1 << 32, 1 << 40, 1 << 62, 1<<63 - 1,
	-1, -2, -7, -8, -31, -128, -129, -256, -1 << 31, -1<<31 - 1, -1 << 32, -1 << 62, -1 << 63,
}

func l(numbers ...int64) []int64 { return numbers }

// somes are numbers by chance.
func somes(r *rand.Rand, count int) []int64 {
	list := []int64{}
	for range count {
		list = append(list, edges[r.Intn(len(edges))])
	}
	return list
}

// trio is a source, the program with operations chosen that it is made, and its graphs.
type trio struct {
	*testing.T
	text   string
	source *check.Program
	plain  *cmin.Prog
	chosen *sel.Prog
	made   rtl.Prog
}

// chosenOf makes a source a program with operations chosen.
func chosenOf(t *testing.T, text string) (*check.Program, *cmin.Prog, *sel.Prog) {
	t.Helper()
	tree, at, e := ast.Parse(text)
	if e != api.OK {
		t.Fatalf("P5.1: %.3000s: %d at %v", text, e, at)
	}
	source, at, e := check.Check(tree)
	if e != api.OK {
		t.Fatalf("P7.1: %.3000s: %d at %v", text, e, at)
	}
	plain, e := cmin.Gen(source)
	if e != api.OK {
		t.Fatalf("P10.1: Gen of %.3000s: %d", text, e)
	}
	chosen, e := sel.Select(plain)
	if e != api.OK {
		t.Fatalf("P11.1: Select of %.3000s: %d", text, e)
	}
	return source, plain, chosen
}

func trioOf(t *testing.T, text string) *trio {
	t.Helper()
	source, plain, chosen := chosenOf(t, text)
	made, e := Build(chosen)
	if e != api.OK || !rtl.Good(made) {
		t.Fatalf("P13.1: Build of %.3000s: %d, and Good is %t: %s", text, e, rtl.Good(made), rtl.Text(made))
	}
	return &trio{t, text, source, plain, chosen, made}
}

// run is one of the graphs.
func (c *trio) run(args, world []int64, fuel int) api.Run {
	c.Helper()
	r, e := rtl.Run(c.made, args, world, fuel)
	if e != api.OK {
		c.Fatalf("P13.1: %.3000s: Run(%v, %v, %d): %d", c.text, args, world, fuel, e)
	}
	return r
}

// told is one of the source.
func (c *trio) told(args, world []int64, fuel int) api.Run {
	c.Helper()
	r, e := clight.Run(c.source, args, world, fuel)
	if e != api.OK {
		c.Fatalf("P8.1: %.3000s: Run(%v, %v, %d): %d", c.text, args, world, fuel, e)
	}
	return r
}

// before is one of the program with operations chosen.
func (c *trio) before(args, world []int64, fuel int) api.Run {
	c.Helper()
	r, e := c.chosen.Run(args, world, fuel)
	if e != api.OK {
		c.Fatalf("P11.1: %.3000s: Run(%v, %v, %d): %d", c.text, args, world, fuel, e)
	}
	return r
}

// holds asks P10.2 at a fuel of the source; and, what P10.3 leans on, that the graphs show just what the chosen program does, but for the blocks' numbers. It tells the source's run.
func (c *trio) holds(args, world []int64, fuel int) api.Run {
	c.Helper()
	source := c.told(args, world, fuel)
	made := c.run(args, world, 100*fuel+1000)
	if source.Kind == api.Halt && !trace.Same(made, source) || source.Kind == api.Fuel && !trace.Prefix(source.Events, made.Events) {
		c.Fatalf("P10.2: %.3000s with %v / %v, %d: %swhere the source says %s\n%s", c.text, args, world, fuel, trace.Text(made), trace.Text(source), rtl.Text(c.made))
	}
	if source.Kind == api.Fuel {
		return source
	}
	chosen := c.before(args, world, 100*fuel+1000)
	if !trace.Same(made, chosen) || !slices.Equal(unnumbered(made.Leaks), unnumbered(chosen.Leaks)) {
		c.Fatalf("P10.3: %.3000s with %v / %v: %d %s\nand before %d %s", c.text, args, world, made.Kind, tellLeaks(made.Leaks), chosen.Kind, tellLeaks(chosen.Leaks))
	}
	return source
}

// unnumbered has blocks numbered in the order in which they are reached.
func unnumbered(leaks []api.Leak) []api.Leak {
	leaks = slices.Clone(leaks)
	numbers := map[int64]int64{}
	for i, k := range leaks {
		if k.Kind != api.Addr {
			continue
		}
		if _, ok := numbers[k.A]; !ok {
			numbers[k.A] = int64(len(numbers))
		}
		leaks[i].A = numbers[k.A]
	}
	return leaks
}

// holdsThroughout asks it at fuels up to the source's end, first at each, and tells that.
func (c *trio) holdsThroughout(args, world []int64) api.Run {
	c.Helper()
	for fuel := 0; ; fuel += 1 + fuel/50 {
		r := c.holds(args, world, fuel)
		if r.Kind != api.Fuel || fuel > 2000 {
			return r
		}
	}
}

// end tells how a run ended.
func end(r api.Run) string {
	lines := strings.Split(strings.TrimSuffix(trace.Text(r), "\n"), "\n")
	return lines[len(lines)-1]
}

func tellLeaks(list []api.Leak) string {
	var words []string
	for _, k := range list {
		switch k.Kind {
		case api.Branch:
			words = append(words, fmt.Sprintf("b%d", k.A))
		case api.Addr:
			words = append(words, fmt.Sprintf("a%d+%d", k.A, k.B))
		case api.Divide:
			words = append(words, fmt.Sprintf("d%d/%d", k.A, k.B))
		case api.Call:
			words = append(words, fmt.Sprintf("c%d", k.A))
		}
	}
	return strings.Join(words, " ")
}

// listing tells a function's nodes.
func listing(f rtl.Func) string {
	lines := strings.Split(rtl.Text(rtl.Prog{Funcs: []rtl.Func{f}}), "\n")
	var l []string
	for _, s := range lines[2:] {
		if _, s, ok := strings.Cut(s, ": "); ok {
			l = append(l, s)
		}
	}
	return strings.Join(l, "; ")
}
