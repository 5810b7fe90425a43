package linear_test

import (
	"fmt"
	"math/rand"
	"slices"
	"testing"

	"plumbob/api"
	"plumbob/graphs"
	"plumbob/linear"
	"plumbob/rtl"
	"plumbob/trace"
)

// text tells a function by itself.
func text(f rtl.Func) string { return rtl.Text(rtl.Prog{Funcs: []rtl.Func{f}}) }

// leapt is what Tunnel must answer, reckoned once more: each node is followed through as many Nops as there may be.
func leapt(f rtl.Func) rtl.Func {
	to := func(n int) int {
		at := n
		for range f.Code {
			if f.Code[at].Op == rtl.Nop {
				at = f.Code[at].S
			}
		}
		if f.Code[at].Op == rtl.Nop {
			return n
		}
		return at
	}
	f.Entry = to(f.Entry)
	code := slices.Clone(f.Code)
	for n, i := range f.Code {
		if i.Op == rtl.Cond {
			code[n].S, code[n].T = to(i.S), to(i.T)
		} else if i.Op != rtl.Return {
			code[n].S = to(i.S)
		}
	}
	f.Code = code
	return f
}

// tunnelled is what Tunnel answers. It asks that nothing is changed, and that Tunnel of it is the same.
func tunnelled(t *testing.T, f rtl.Func) rtl.Func {
	t.Helper()
	before := dump(f)
	made, e := linear.Tunnel(f)
	if e != api.OK || dump(f) != before {
		t.Fatalf("P18.2: Tunnel of %.3000s: %d, and it is %.3000s", before, e, dump(f))
	}
	if again, e := linear.Tunnel(made); e != api.OK || dump(again) != dump(made) {
		t.Fatalf("P18.2: Tunnel of %.3000s: %.3000s, and Tunnel of that %.3000s (%d)", text(f), text(made), text(again), e)
	}
	return made
}

// nodes tells where each node goes on.
func nodes(f rtl.Func) string {
	told := fmt.Sprint(f.Entry, ":")
	for _, i := range f.Code {
		told += fmt.Sprint(" ", slices.Collect(rtl.Succs(i)))
	}
	return told
}

// TestTunnel has functions written out, by where their nodes go on.
func TestTunnel(t *testing.T) {
	c := func(s int) rtl.Instr { return rtl.Instr{Op: rtl.Const, D: 1, S: s} }
	for _, x := range []struct {
		name, want string
		f          rtl.Func
	}{
		{"through one Nop", "0: [2] [2] []", function(0, c(1), nothing(2), leave())},
		{"through several", "0: [4] [4] [4] [4] []", function(0, c(3), nothing(4), nothing(1), nothing(2), leave())},
		{"no Nop", "0: [1] []", function(0, c(1), leave())},
		{"the entry", "1: [1] []", function(0, nothing(1), leave())},
		{"the entry, through several", "3: [3] [3] [3] []", entered(2, function(0, nothing(1), nothing(3), nothing(0), leave()))},
		{"to itself", "0: [0]", function(0, c(0))},
		{"to itself through a Nop", "0: [0] [0]", function(0, c(1), nothing(0))},
		{"a Nop that goes on at itself", "0: [0]", function(0, nothing(0))},
		{"into one", "0: [1] [1]", function(0, c(1), nothing(1))},
		{"into one through a Nop", "0: [1] [2] [2]", function(0, c(1), nothing(2), nothing(2))},
		{"a ring", "1: [1] [2] [0]", entered(1, function(0, nothing(1), nothing(2), nothing(0)))},
		{"into a ring from outside", "0: [1] [2] [1] [0] [0]", entered(4, function(0, c(1), nothing(2), nothing(1), nothing(0), nothing(3)))},
		{"into a ring through several", "0: [1] [2] [3] [4] [2]", function(0, c(1), nothing(2), nothing(3), nothing(4), nothing(2))},
		{"a ring that is no ring of Nops", "2: [2] [2] [2]", function(0, nothing(1), nothing(2), c(0))},
		{"S and T", "0: [3 4] [3] [4] [] []", function(0, test(1, 2, 1, 2), nothing(3), nothing(4), leave(), leave())},
		{"S and T to one", "0: [2 2] [2] []", function(0, test(1, 2, 1, 2), nothing(2), leave())},
		{"S into a ring, T out", "0: [1 3] [1] [3] []", function(0, test(1, 2, 1, 2), nothing(1), nothing(3), leave())},
		{"T into a ring, S out", "0: [3 1] [1] [3] []", function(0, test(1, 2, 2, 1), nothing(1), nothing(3), leave())},
		{"a Cond to itself", "0: [0 0] [0] [0]", function(0, test(1, 2, 1, 2), nothing(0), nothing(0))},
		{"what can't be reached", "0: [] [3] [3] []", function(0, leave(), c(2), nothing(3), leave())},
		{"of each that goes on", "0: [11] [11] [11] [11] [11] [11] [11] [11] [11] [11] [11] [11]", function(0, c(10), move(1, 2), rtl.Instr{Op: rtl.Un, Sub: api.Neg}, fixed(api.Add, 1, 2, 3), rtl.Instr{Op: rtl.Load, Sub: 4}, rtl.Instr{Op: rtl.Store, Sub: 1}, rtl.Instr{Op: rtl.Global}, rtl.Instr{Op: rtl.Frame}, rtl.Instr{Op: rtl.Call}, input(1), nothing(11), output(1))},
	} {
		if x.name == "of each that goes on" {
			for n := range x.f.Code {
				x.f.Code[n].S = 10
			}
			x.f.Code[10].S = 11
		}
		got := tunnelled(t, x.f)
		if nodes(got) != x.want || dump(got) != dump(leapt(x.f)) {
			t.Errorf("P18.2: %s: %s, want %s: %s", x.name, nodes(got), x.want, text(got))
		}
	}
}

// TestTunnelStays: what the table does not name stays as it is, and so does all but nodes.
func TestTunnelStays(t *testing.T) {
	f := rtl.Func{Name: "a\xff", Params: []int{2, 0}, Regs: 4999, Frame: 65536, Entry: 3, Code: []rtl.Instr{
		{Op: rtl.Nop, A: 9, B: -8, D: 7, K: 6, Sub: 5, Args: []int{4}, S: 1, T: 0}, {Op: rtl.Return, A: -1, S: 0, T: 0}, {Op: rtl.Return, A: 4998, B: 3, S: lowest, T: highest}, {Op: rtl.Call, Sub: 70000, Args: []int{1, 1}, D: -1, K: 5, S: 0, T: 0}, {Op: rtl.Const, T: lowest, S: 0},
	}}
	want := dump(f)
	f.Code[3].S, f.Code[4].S = 1, 1
	want, f.Code[3].S, f.Code[4].S = dump(f), 0, 0
	if got := dump(tunnelled(t, f)); got != want {
		t.Errorf("P18.2: Tunnel: %s, want %s", got, want)
	}
	g := tunnelled(t, f)
	g.Code[3].Args[0], g.Params[0], g.Code[0].Args = 50, 50, append(g.Code[0].Args, 50)
	clear(g.Code)
	if got := dump(tunnelled(t, f)); got != want {
		t.Errorf("R4: Tunnel: what is done to an answer changes another: %s, want %s", got, want)
	}
}

// TestTunnelRefused has each way in which a function is not right.
func TestTunnelRefused(t *testing.T) {
	for _, c := range graphs.Cases() {
		g, e := linear.Tunnel(c.Func)
		if c.IsRight && (e != api.OK || len(g.Code) != len(c.Func.Code)) || !c.IsRight && (e != api.EARG || dump(g) != dump(rtl.Func{})) {
			t.Errorf("P18.2: Tunnel with %s: %d, %.300s", c.Name, e, text(g))
		}
	}
	count := map[bool]int{}
	for seed := range int64(4000) {
		f := graphs.Broken(rand.New(rand.NewSource(seed)).Intn)
		g, e := linear.Tunnel(f)
		isRight := rtl.Right(f)
		if isRight != (e == api.OK) || !isRight && (e != api.EARG || dump(g) != dump(rtl.Func{})) || isRight && dump(g) != dump(leapt(f)) {
			t.Fatalf("P18.2: Tunnel of %s: %d, %s", text(f), e, text(g))
		}
		count[isRight]++
	}
	if count[true] < 500 || count[false] < 500 {
		t.Errorf("P18.2: right and not: %v", count)
	}
}

// TestTunnelByChance: it does the same, in as many steps or fewer, and leaks the same.
func TestTunnelByChance(t *testing.T) {
	t.Parallel()
	ends, fewer := map[int]int{}, 0
	for seed := range int64(1000) {
		r := rand.New(rand.NewSource(seed))
		p := graphs.Wild(r.Intn, 3+r.Intn(5))
		if seed%2 == 0 {
			p = graphs.New(r.Intn, 40).Program()
		}
		p = graphs.Scrambled(r.Intn, p)
		q := p
		q.Funcs = nil
		for _, f := range p.Funcs {
			g := tunnelled(t, f)
			if dump(g) != dump(leapt(f)) {
				t.Fatalf("P18.2: Tunnel of %s: %s", text(f), text(g))
			}
			q.Funcs = append(q.Funcs, g)
		}
		args, world := somes(r, len(p.Funcs[p.Main].Params)), somes(r, 3)
		last, far := graphRun(t, p, args, world, 300), graphRun(t, p, args, world, 300*20)
		for _, fuel := range []int{0, 1, 2, 5, r.Intn(last.Steps + 1), last.Steps, 300} {
			before, after := graphRun(t, p, args, world, fuel), graphRun(t, q, args, world, fuel)
			if !isBehind(before, after) || !isBehind(after, far) || after.Steps > before.Steps {
				t.Fatalf("P18.2: %v, %v with fuel %d: %.3000v, want %.3000v: %sit was %s", args, world, fuel, after, before, rtl.Text(q), rtl.Text(p))
			}
			if fuel == 300 && after.Steps < before.Steps {
				fewer++
			}
		}
		ends[last.Kind]++
	}
	if ends[api.Halt] < 300 || ends[api.Fuel] < 150 || fewer < 200 {
		t.Errorf("P18.2: those made by chance end %v, %d in fewer steps", ends, fewer)
	}
}

// isBehind tells whether a run is where another one goes on from, or the same.
func isBehind(part, whole api.Run) bool {
	if part.Kind != api.Fuel && (part.Kind != whole.Kind || len(part.Events) != len(whole.Events) || len(part.Leaks) != len(whole.Leaks)) {
		return false
	}
	return trace.Prefix(part.Events, whole.Events) && len(part.Leaks) <= len(whole.Leaks) && slices.Equal(part.Leaks, whole.Leaks[:len(part.Leaks)]) && (part.Kind == api.Fuel || part.Exit == whole.Exit)
}

// graphRun runs graphs over registers.
func graphRun(t *testing.T, p rtl.Prog, args, world []int64, fuel int) api.Run {
	t.Helper()
	r, e := rtl.Run(p, args, world, fuel)
	if e != api.OK {
		t.Fatalf("P18.2: %s: %d", rtl.Text(p), e)
	}
	return r
}
