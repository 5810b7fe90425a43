package cmin

import (
	"math"
	"slices"
	"strconv"
	"strings"
	"testing"

	"plumbob/api"
	"plumbob/ast"
	"plumbob/check"
	"plumbob/clight"
	"plumbob/simpl"
	"plumbob/trace"
)

// edges are numbers at which the types turn.
var edges = []int64{
	0, 1, 2, 3, 7, 31, 32, 63, 64, 100, 127, 128, 129, 200, 255, 256, 300, 1<<31 - 1, 1 << 31, 1<<31 + 1, 1<<32 - 1, 1 << 32, 1<<32 + 5, 1 << 40, math.MaxInt64,
	-1, -2, -7, -31, -127, -128, -129, -256, -1 << 31, -1<<31 - 1, -1 << 32, -1<<63 + 1, math.MinInt64,
}

func l(numbers ...int64) []int64 { return numbers }

func compile(t *testing.T, text string) *check.Program {
	t.Helper()
	tree, at, e := ast.Parse(text)
	if e != api.OK {
		t.Fatalf("P5.1: %.3000s: %d at %v", text, e, at)
	}
	p, at, e := check.Check(tree)
	if e != api.OK {
		t.Fatalf("P7.1: %.3000s: %d at %v", text, e, at)
	}
	return p
}

// pair is a source, and what Gen makes of it.
type pair struct {
	*testing.T
	text   string
	source *check.Program
	made   *Prog
	laid   []int // by function: how many parameters are laid in the memory when it is called
}

func pairOf(t *testing.T, text string) *pair {
	t.Helper()
	c := &pair{T: t, text: text, source: compile(t, text)}
	made, e := Gen(c.source)
	if e != api.OK || made == nil {
		t.Fatalf("P10.1: Gen of %.3000s: %d", text, e)
	}
	c.made = made
	vars := simpl.Vars(c.source)
	for _, s := range c.source.Sigs() {
		laid := 0
		first := slices.IndexFunc(vars, func(v simpl.Var) bool { return v.Function == s.Name })
		for i := range s.Params {
			if !vars[first+i].Apart {
				laid++
			}
		}
		c.laid = append(c.laid, laid)
	}
	return c
}

// run is one of what was made.
func (c *pair) run(args, world []int64, fuel int) api.Run {
	c.Helper()
	r, e := c.made.Run(args, world, fuel)
	if e != api.OK {
		c.Fatalf("P10.1: %.3000s: Run(%v, %v, %d): %d", c.text, args, world, fuel, e)
	}
	return r
}

// told is one of the source.
func (c *pair) told(args, world []int64, fuel int) api.Run {
	c.Helper()
	r, e := clight.Run(c.source, args, world, fuel)
	if e != api.OK {
		c.Fatalf("P8.1: %.3000s: Run(%v, %v, %d): %d", c.text, args, world, fuel, e)
	}
	return r
}

// follow goes along leaks beside the source's: they are the same, but that blocks are their own, and that there are those of the parameters that are laid in the memory besides. It tells how many of the source's are met, how many are left behind the source's last one, and what does not fit.
func (c *pair) follow(source, made []api.Leak) (met, left int, fault string) {
	homes, owners := map[int64]api.Leak{}, map[api.Leak]int64{}
	main := slices.IndexFunc(c.source.Sigs(), func(s check.Sig) bool { return s.Name == "main" })
	laid := c.laid[main]
	for i, k := range made {
		if laid > 0 {
			if k.Kind != api.Addr {
				return met, 0, "where a parameter is laid: " + tellLeak(k)
			}
			laid--
			continue
		}
		if met == len(source) {
			return met, len(made) - i, ""
		}
		s := source[met]
		if k.Kind == api.Addr && s.Kind == api.Addr {
			home := api.Leak{Kind: api.Addr, A: k.A, B: k.B - s.B}
			if _, isKnown := homes[s.A]; !isKnown {
				homes[s.A] = home
			}
			if _, isKnown := owners[home]; !isKnown {
				owners[home] = s.A
			}
			if homes[s.A] != home || owners[home] != s.A {
				return met, 0, tellLeak(k) + ", where the source's is " + tellLeak(s)
			}
		} else if k != s {
			return met, 0, tellLeak(k) + ", where the source's is " + tellLeak(s)
		}
		met++
		if k.Kind == api.Call {
			laid = c.laid[k.A]
		}
	}
	return met, 0, ""
}

// holds asks P10.2 at a fuel of the source, and what P10.3 leans on: that the leaks are the source's, and come no earlier than there. It tells the source's run.
func (c *pair) holds(args, world []int64, fuel int) api.Run {
	c.Helper()
	source, made, same := c.told(args, world, fuel), c.run(args, world, 100*fuel+1000), c.run(args, world, fuel)
	if source.Kind == api.Stuck {
		return source
	}
	if source.Kind == api.Halt && !trace.Same(made, source) || source.Kind == api.Fuel && !trace.Prefix(source.Events, made.Events) {
		c.Fatalf("P10.2: %.3000s with %v / %v, %d: %swhere the source says %s", c.text, args, world, fuel, trace.Text(made), trace.Text(source))
	}
	met, left, fault := c.follow(source.Leaks, made.Leaks)
	if fault != "" || met < len(source.Leaks) || source.Kind == api.Halt && left > 0 {
		c.Fatalf("P10.3: %.3000s with %v / %v, %d: of the source's %d leaks %d are met, %d are left: %s", c.text, args, world, fuel, len(source.Leaks), met, left, fault)
	}
	_, left, fault = c.follow(source.Leaks, same.Leaks)
	if fault != "" || left > 0 || !trace.Prefix(same.Events, source.Events) || same.Kind != api.Fuel && same.Kind != source.Kind {
		c.Fatalf("P10.3: %.3000s with %v / %v, %d: it is ahead of the source with the same fuel: %d leaks, %s%s", c.text, args, world, fuel, left, trace.Text(same), fault)
	}
	return source
}

// holdsThroughout asks it at each fuel up to the source's end, and tells that.
func (c *pair) holdsThroughout(args, world []int64) api.Run {
	c.Helper()
	for fuel := 0; ; fuel++ {
		r := c.holds(args, world, fuel)
		if r.Kind != api.Fuel || fuel > 3000 {
			return r
		}
	}
}

// ends asks that a source comes to an end, and P10.2 on the way there.
func (c *pair) ends(args, world []int64, want string) {
	c.Helper()
	r := c.holdsThroughout(args, world)
	if s := end(r); s != want {
		c.Errorf("P8.1: %.3000s with %v / %v: %s, want %s", c.text, args, world, s, want)
	}
}

// end tells how a run ended.
func end(r api.Run) string {
	lines := strings.Fields(strings.ReplaceAll(trace.Text(r), " ", "_"))
	return strings.ReplaceAll(lines[len(lines)-1], "_", " ")
}

func tellLeak(k api.Leak) string {
	a, b := strconv.FormatInt(k.A, 10), strconv.FormatInt(k.B, 10)
	switch {
	case k.Kind == api.Addr:
		return "a" + a + "+" + b
	case k.Kind == api.Divide:
		return "d" + a + "/" + b
	case k.Kind == api.Branch && k.B == 0:
		return "b" + a
	case k.Kind == api.Call && k.B == 0:
		return "c" + a
	}
	return "none"
}

func tellLeaks(list []api.Leak) string {
	var words []string
	for _, k := range list {
		words = append(words, tellLeak(k))
	}
	return strings.Join(words, " ")
}

// tale is a text, and what is asked of its run.
type tale struct {
	text        string
	args, world []int64
	want        string
}

func isZero(r api.Run) bool {
	return r.Kind == 0 && r.Exit == 0 && len(r.Events) == 0 && len(r.Leaks) == 0 && r.Steps == 0
}
