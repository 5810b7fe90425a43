package pair

import (
	"testing"

	"plumbob/api"
)

// counter is a level whose runs take the first argument's number of steps, each an Out of its number, a number of times again; they leak the second one at their end.
func counter(times int, change func(*api.Run)) Level {
	return func(args, world []int64, fuel int) api.Run {
		r := api.Run{Kind: api.Fuel}
		for r.Steps < fuel && r.Steps < times*int(args[0]) {
			r.Steps++
			if r.Steps%times == 0 {
				r.Events = append(r.Events, api.Event{Kind: api.Out, V: int64(r.Steps / times)})
			}
		}
		if r.Steps == times*int(args[0]) {
			r.Kind, r.Exit, r.Leaks = api.Halt, args[0], []api.Leak{{Kind: api.Branch, A: args[1]}}
		}
		if change != nil {
			change(&r)
		}
		return r
	}
}

func of(args ...int64) Given { return Given{Args: args} }

// pairOf gives a run below thrice the fuel, and more.
func pairOf(upper, lower Level, more, most int) Pair {
	return Pair{Upper: upper, Lower: lower, Times: 3, More: more, Most: most}
}

func TestHolds(t *testing.T) {
	for _, c := range []struct {
		name    string
		times   int
		change  func(*api.Run)
		isRight bool
	}{
		{"the same", 1, nil, true}, {"thrice the steps", 3, nil, true}, {"more steps than there may be", 5, nil, false},
		{"another exit", 2, func(r *api.Run) { r.Exit = 7 }, false}, {"stuck", 2, func(r *api.Run) { r.Kind = api.Stuck }, false}, {"without an end", 2, func(r *api.Run) { r.Kind = api.Fuel }, false},
		{"an event less", 2, func(r *api.Run) { r.Events = r.Events[:min(3, len(r.Events))] }, false}, {"an event more", 2, func(r *api.Run) { r.Events = append(r.Events, api.Event{}) }, false},
		{"another event", 2, func(r *api.Run) {
			if len(r.Events) > 3 {
				r.Events[3].V++
			}
		}, false},
		{"an event more with little fuel", 2, func(r *api.Run) {
			if r.Steps == 0 {
				r.Events = []api.Event{{Kind: api.In}}
			}
		}, false},
	} {
		for _, steps := range []int64{9, 1000, 100000} {
			p := pairOf(counter(1, nil), counter(c.times, c.change), 1, 2000)
			kind, fault := p.Holds(of(steps, 0))
			if isEnding := steps < 2000; kind == api.Halt != isEnding || (fault == "") != c.isRight && (isEnding || c.name != "without an end" && c.name != "another exit") {
				t.Errorf("%s, %d steps: %d, %s", c.name, steps, kind, fault)
			}
		}
	}
	stuck := counter(1, func(r *api.Run) { r.Kind = api.Stuck })
	if kind, fault := pairOf(stuck, counter(9, nil), 1, 100).Holds(of(5, 0)); kind != api.Stuck || fault != "" {
		t.Errorf("one that is Stuck: %d, %s", kind, fault)
	}
	late := counter(1, func(r *api.Run) {
		if r.Steps > 100 {
			r.Kind = api.Stuck
		}
	})
	if kind, fault := pairOf(late, counter(9, nil), 3, 100).Holds(of(500, 0)); kind != api.Stuck || fault != "" {
		t.Errorf("one that is Stuck at last: %d, %s", kind, fault)
	}
}

func TestLeakTheSame(t *testing.T) {
	same := pairOf(counter(1, nil), counter(2, nil), 1, 2000)
	apart := pairOf(func(args, world []int64, fuel int) api.Run {
		return counter(1, nil)([]int64{9, 0}, world, fuel)
	}, counter(2, nil), 1, 2000)
	for _, c := range []struct {
		name             string
		p                Pair
		one, two         Given
		isAsked, isRight bool
	}{
		{"the same", same, of(7, 3), of(7, 3), true, true}, {"other leaks", same, of(7, 3), of(7, 4), false, true}, {"other steps", same, of(7, 3), of(8, 3), false, true},
		{"steps below alone", apart, of(7, 3), of(8, 3), true, false}, {"leaks below alone", apart, of(7, 3), of(7, 4), true, false},
		{"without an end", same, of(5000, 3), of(5000, 4), true, true},
	} {
		isAsked, fault := c.p.LeakTheSame(c.one, c.two)
		if isAsked != c.isAsked || (fault == "") != c.isRight {
			t.Errorf("%s: %t, %s", c.name, isAsked, fault)
		}
	}
	stuck := pairOf(counter(1, func(r *api.Run) { r.Kind = api.Stuck }), counter(2, nil), 1, 100)
	if isAsked, fault := stuck.LeakTheSame(of(5, 1), of(5, 2)); isAsked || fault != "" {
		t.Errorf("one that is Stuck: %t, %s", isAsked, fault)
	}
}

// TestLeap: where one step below stands for several above, more may be done below with as much fuel.
func TestLeap(t *testing.T) {
	for leap, isRight := range map[int]bool{0: false, 1: false, 2: false, 5: true, 9: true} {
		p := pairOf(counter(5, nil), counter(1, nil), 1, 2000)
		p.Leap = leap
		if kind, fault := p.Holds(of(100000, 0)); kind != api.Fuel || (fault == "") != isRight {
			t.Errorf("one that goes on, with %d steps at once: %d, %s", leap, kind, fault)
		}
		if isAsked, fault := p.LeakTheSame(of(500, 3), of(500, 4)); !isAsked || (fault == "") != isRight {
			t.Errorf("two that end later, with %d steps at once: %t, %s", leap, isAsked, fault)
		}
		if kind, fault := p.Holds(of(300, 0)); kind != api.Halt || fault != "" {
			t.Errorf("one that ends, with %d steps at once: %d, %s", leap, kind, fault)
		}
	}
}
