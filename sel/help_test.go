package sel

import (
	"fmt"
	"math"
	"slices"
	"strings"
	"testing"

	"plumbob/api"
	"plumbob/ast"
	"plumbob/check"
	"plumbob/clight"
	"plumbob/cmin"
	"plumbob/trace"
)

// edges are numbers at which the types, shifts and the machine's constants turn.
var edges = []int64{
	0, 1, 2, 3, 7, 8, 31, 32, 63, 64, 127, 128, 255, 256, 1000, 1<<31 - 1, 1 << 31, 1<<31 + 1, 1<<32 - 1, 1 << 32, 1<<32 + 5, 1 << 40, 1 << 62, math.MaxInt64,
	-1, -2, -7, -8, -31, -128, -129, -256, -1<<31 + 1, -1 << 31, -1<<31 - 1, -1 << 32, -1 << 62, -1<<63 + 1, math.MinInt64,
}

var integers = []string{"char", "int", "long"}

func l(numbers ...int64) []int64 { return numbers }

// written is a number as an expression.
func written(n int64) string {
	switch {
	case n == math.MinInt64:
		return "(-9223372036854775807-1)"
	case n < 0:
		return fmt.Sprintf("(%d)", n)
	}
	return fmt.Sprint(n)
}

// trio is a source, the program without types that it is made, and the one with operations chosen.
type trio struct {
	*testing.T
	text   string
	source *check.Program
	plain  *cmin.Prog
	chosen *Prog
}

func trioOf(t *testing.T, text string) *trio {
	t.Helper()
	tree, at, e := ast.Parse(text)
	if e != api.OK {
		t.Fatalf("P5.1: %.3000s: %d at %v", text, e, at)
	}
	source, at, e := check.Check(tree)
	if e != api.OK {
		t.Fatalf("P7.1: %.3000s: %d at %v", text, e, at)
	}
	plain, e := cmin.Gen(source)
	if e != api.OK {
		t.Fatalf("P10.1: Gen of %.3000s: %d", text, e)
	}
	chosen, e := Select(plain)
	if e != api.OK || chosen == nil {
		t.Fatalf("P11.1: Select of %.3000s: %d", text, e)
	}
	return &trio{t, text, source, plain, chosen}
}

// run is one of what was chosen.
func (c *trio) run(args, world []int64, fuel int) api.Run {
	c.Helper()
	r, e := c.chosen.Run(args, world, fuel)
	if e != api.OK {
		c.Fatalf("P11.1: %.3000s: Run(%v, %v, %d): %d", c.text, args, world, fuel, e)
	}
	return r
}

// told is one of the source.
func (c *trio) told(args, world []int64, fuel int) api.Run {
	c.Helper()
	r, e := clight.Run(c.source, args, world, fuel)
	if e != api.OK {
		c.Fatalf("P8.1: %.3000s: Run(%v, %v, %d): %d", c.text, args, world, fuel, e)
	}
	return r
}

// before is one of the program without types.
func (c *trio) before(args, world []int64, fuel int) api.Run {
	c.Helper()
	r, e := c.plain.Run(args, world, fuel)
	if e != api.OK {
		c.Fatalf("P10.1: %.3000s: Run(%v, %v, %d): %d", c.text, args, world, fuel, e)
	}
	return r
}

// holds asks P10.2 at a fuel of the source, and what P10.3 leans on: that leaks are ones that cmin has, and come no earlier than in the source. It tells the source's run.
func (c *trio) holds(args, world []int64, fuel int) api.Run {
	c.Helper()
	source := c.told(args, world, fuel)
	if source.Kind == api.Stuck {
		return source
	}
	made, same := c.run(args, world, 100*fuel+1000), c.run(args, world, fuel)
	if source.Kind == api.Halt && !trace.Same(made, source) || source.Kind == api.Fuel && !trace.Prefix(source.Events, made.Events) {
		c.Fatalf("P10.2: %.3000s with %v / %v, %d: %swhere the source says %s", c.text, args, world, fuel, trace.Text(made), trace.Text(source))
	}
	if same.Kind != api.Fuel && same.Kind != source.Kind || !trace.Prefix(same.Events, source.Events) {
		c.Fatalf("P10.3: %.3000s with %v / %v, %d: it is ahead of the source with the same fuel: %s", c.text, args, world, fuel, trace.Text(same))
	}
	if source.Kind == api.Halt {
		c.shows(made, c.before(args, world, 100*fuel+1000))
	}
	return source
}

// shows asks that a run shows no more than one of cmin: the same accesses and calls, and of the divisions and branches those that are left.
func (c *trio) shows(made, plain api.Run) {
	c.Helper()
	if made.Steps != plain.Steps || !slices.Equal(reached(made.Leaks), reached(plain.Leaks)) || !isWithin(made.Leaks, plain.Leaks) {
		c.Fatalf("P10.3: %.3000s: with %d steps %s, and cmin's with %d %s", c.text, made.Steps, tellLeaks(made.Leaks), plain.Steps, tellLeaks(plain.Leaks))
	}
}

// reached are the accesses and calls of some leaks.
func reached(list []api.Leak) []api.Leak {
	return slices.DeleteFunc(slices.Clone(list), func(k api.Leak) bool { return k.Kind != api.Addr && k.Kind != api.Call })
}

// isWithin tells whether leaks are others', some left out, and each branch as it was or turned.
func isWithin(list, all []api.Leak) bool {
	for _, k := range list {
		i := slices.IndexFunc(all, func(o api.Leak) bool { return k == o || k.Kind == api.Branch && o.Kind == api.Branch })
		if i < 0 {
			return false
		}
		all = all[i+1:]
	}
	return true
}

// holdsThroughout asks it at each fuel up to the source's end, and tells that.
func (c *trio) holdsThroughout(args, world []int64) api.Run {
	c.Helper()
	for fuel := 0; ; fuel++ {
		r := c.holds(args, world, fuel)
		if r.Kind != api.Fuel || fuel > 3000 {
			return r
		}
	}
}

// ends asks that a source comes to an end, and P10.2 on the way there.
func (c *trio) ends(args, world []int64, want string) {
	c.Helper()
	if s := end(c.holdsThroughout(args, world)); s != want {
		c.Errorf("P8.1: %.3000s with %v / %v: %s, want %s", c.text, args, world, s, want)
	}
}

// end tells how a run ended.
func end(r api.Run) string {
	lines := strings.Split(strings.TrimSuffix(trace.Text(r), "\n"), "\n")
	return lines[len(lines)-1]
}

func tellLeaks(list []api.Leak) string {
	var words []string
	for _, k := range list {
		switch k.Kind {
		case api.Branch:
			words = append(words, fmt.Sprintf("b%d", k.A))
		case api.Addr:
			words = append(words, fmt.Sprintf("a%d+%d", k.A, k.B))
		case api.Divide:
			words = append(words, fmt.Sprintf("d%d/%d", k.A, k.B))
		case api.Call:
			words = append(words, fmt.Sprintf("c%d", k.A))
		}
	}
	return strings.Join(words, " ")
}

// body tells what the last function's body, without what main does with its parameters, is told as.
func (c *trio) body() string {
	lines := strings.Split(c.chosen.Text(), "\n")
	i := slices.Index(lines, "\t\tblock")
	var l []string
	for _, s := range lines[i+1:] {
		if s = strings.TrimSpace(s); s != "" {
			l = append(l, s)
		}
	}
	return strings.Join(l, "; ")
}
