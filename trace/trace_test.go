package trace

import (
	"math"
	"slices"
	"strconv"
	"strings"
	"testing"

	"plumbob/api"
)

const (
	least    = math.MinInt64
	greatest = math.MaxInt64
)

// wrongKinds are no Kind of a run, nor of an event or a leak.
var wrongKinds = []int{0, -1, 5, 9, math.MaxInt, math.MinInt}

// runKinds are all Kinds of a run, and some that are none.
var runKinds = append([]int{api.Halt, api.Fuel, api.Stuck, api.Overflow}, wrongKinds...)

func in(v int64) api.Event { return api.Event{Kind: api.In, V: v} }

func out(v int64) api.Event { return api.Event{Kind: api.Out, V: v} }

func events(l ...api.Event) []api.Event { return l }

// asks holds a World against what it should tell, number by number.
func asks(t *testing.T, w *World, want ...int64) {
	t.Helper()
	before := w.Used()
	for i, n := range want {
		if got := w.Next(); got != n {
			t.Errorf("P3.1: Next, number %d: %d, not %d", before+i, got, n)
		}
		if used := w.Used(); used != before+i+1 {
			t.Errorf("P3.1: Used behind %d: %d", before+i+1, used)
		}
	}
}

func TestWorldExample(t *testing.T) {
	w := New([]int64{5})
	asks(t, w, 5, 0)
	if w.Used() != 2 {
		t.Errorf("P3.1: Used: %d, not 2", w.Used())
	}
}

func TestWorldInOrder(t *testing.T) {
	w := New([]int64{3, -4, 0, greatest, least, 3})
	if w.Used() != 0 || w.Used() != 0 {
		t.Errorf("P3.1: Used ahead of all: %d", w.Used())
	}
	asks(t, w, 3, -4, 0, greatest, least, 3)
}

func TestWorldOfNoNumbers(t *testing.T) {
	for _, l := range [][]int64{nil, {}, make([]int64, 0, 4)} {
		w := New(l)
		if w.Used() != 0 {
			t.Errorf("P3.1: Used of a world of no numbers: %d", w.Used())
		}
		asks(t, w, 0, 0, 0)
	}
}

func TestWorldPastItsLastNumber(t *testing.T) {
	w := New([]int64{7, 8})
	asks(t, w, 7, 8)
	for range 1000 {
		asks(t, w, 0)
	}
	if w.Used() != 1002 {
		t.Errorf("P3.1: Used: %d, not 1002", w.Used())
	}
}

func TestWorldIsNotTheListThatWasHandedIn(t *testing.T) {
	l := []int64{1, 2, 3, 4}
	w := New(l[:2])
	l[1], l[2] = 9, 9
	asks(t, w, 1, 2, 0, 0)
	if !slices.Equal(l, []int64{1, 9, 9, 4}) {
		t.Errorf("R4: the list was changed: %v", l)
	}
}

func TestWorldsAreApart(t *testing.T) {
	l := []int64{1, 2}
	a, b := New(l), New(l)
	asks(t, a, 1, 2, 0)
	asks(t, b, 1)
	if a.Used() != 3 || b.Used() != 1 {
		t.Errorf("P3.1: Used: %d, %d", a.Used(), b.Used())
	}
}

func wantSame(t *testing.T, a, b api.Run, want bool) {
	t.Helper()
	if Same(a, b) != want || Same(b, a) != want {
		t.Errorf("P3.1: Same(%v, %v) or the other way is not %v", a, b, want)
	}
}

func wantLeaks(t *testing.T, a, b api.Run, want bool) {
	t.Helper()
	if Leaks(a, b) != want || Leaks(b, a) != want {
		t.Errorf("P3.1: Leaks(%v, %v) or the other way is not %v", a, b, want)
	}
}

// whole is a run with each field told.
func whole(kind int) api.Run {
	return api.Run{
		Kind: kind, Exit: 3, Steps: 17,
		Events: events(in(4), out(-7), out(4)),
		Leaks:  []api.Leak{{Kind: api.Branch, A: 1}, {Kind: api.Addr, A: 2, B: 8}, {Kind: api.Divide, A: -7, B: 2}, {Kind: api.Call, A: 1}},
	}
}

func TestSame(t *testing.T) {
	for _, kind := range runKinds {
		a := whole(kind)
		wantSame(t, a, whole(kind), true)

		b := whole(kind)
		b.Steps = 18
		wantSame(t, a, b, true)
		b.Leaks = nil
		wantSame(t, a, b, true)

		b = whole(kind)
		b.Exit = 4
		wantSame(t, a, b, false)

		for _, other := range runKinds {
			wantSame(t, a, whole(other), other == kind)
		}
	}
}

func TestSameAsksEachEvent(t *testing.T) {
	a := whole(api.Halt)
	for _, l := range [][]api.Event{
		nil, a.Events[:1], a.Events[:2], append(slices.Clone(a.Events), out(1)),
		events(out(4), out(-7), out(4)), events(in(4), out(-7), in(4)), events(in(4), out(7), out(4)),
		events(in(4), out(-7), out(5)), events(in(5), out(-7), out(4)), events(out(4), out(-7), in(4)),
		events(in(4), api.Event{Kind: 3, V: -7}, out(4)), events(in(4), api.Event{V: -7}, out(4)),
	} {
		b := whole(api.Halt)
		b.Events = l
		wantSame(t, a, b, false)
	}
}

func TestSameWithoutEvents(t *testing.T) {
	a := api.Run{Kind: api.Fuel}
	b := api.Run{Kind: api.Fuel, Events: []api.Event{}, Leaks: []api.Leak{{Kind: api.Call}}}
	wantSame(t, a, b, true)
	wantSame(t, a, api.Run{Kind: api.Fuel, Events: events(in(0))}, false)
	wantSame(t, api.Run{}, api.Run{}, true)
}

func TestSameOfEventsOfNoKind(t *testing.T) {
	for _, kind := range wrongKinds {
		odd := api.Run{Kind: api.Halt, Events: events(api.Event{Kind: kind, V: 1})}
		wantSame(t, odd, api.Run{Kind: api.Halt, Events: events(api.Event{Kind: kind, V: 1})}, true)
		wantSame(t, odd, api.Run{Kind: api.Halt, Events: events(in(1))}, false)
		wantSame(t, odd, api.Run{Kind: api.Halt, Events: events(out(1))}, false)
		wantSame(t, odd, api.Run{Kind: api.Halt}, false)
	}
}

func TestLeaks(t *testing.T) {
	for _, kind := range runKinds {
		a, b := whole(kind), whole(kind)
		wantLeaks(t, a, b, true)
		b.Steps, b.Exit, b.Events = 18, 4, nil
		wantLeaks(t, a, b, true)
		for _, other := range runKinds {
			wantLeaks(t, a, whole(other), other == kind)
			wantLeaks(t, api.Run{Kind: kind}, api.Run{Kind: other}, other == kind)
		}
	}
}

func TestLeaksEntryByEntry(t *testing.T) {
	a := whole(api.Halt)
	for i := range a.Leaks {
		for _, change := range []func(l *api.Leak){
			func(l *api.Leak) { l.Kind++ },
			func(l *api.Leak) { l.Kind = 0 },
			func(l *api.Leak) { l.A++ },
			func(l *api.Leak) { l.B = least },
		} {
			b := whole(api.Halt)
			change(&b.Leaks[i])
			wantLeaks(t, a, b, false)
		}
		b := whole(api.Halt)
		b.Leaks = b.Leaks[:i]
		wantLeaks(t, a, b, false)
	}
	b := whole(api.Halt)
	b.Leaks[0], b.Leaks[1] = b.Leaks[1], b.Leaks[0]
	wantLeaks(t, a, b, false)
}

func TestLeaksWithoutLeaks(t *testing.T) {
	wantLeaks(t, api.Run{Kind: api.Halt}, api.Run{Kind: api.Halt, Leaks: []api.Leak{}}, true)
	wantLeaks(t, api.Run{Kind: api.Halt}, api.Run{Kind: api.Halt, Leaks: []api.Leak{{}}}, false)
}

func TestPrefix(t *testing.T) {
	odd := api.Event{Kind: 7, V: 1}
	all := events(in(1), out(2), odd, out(2), in(least), out(greatest))
	for n := range len(all) + 1 {
		for m := range len(all) + 1 {
			if Prefix(all[:n], all[:m]) != (n <= m) {
				t.Errorf("P3.1: Prefix of the first %d and the first %d is not %v", n, m, n <= m)
			}
		}
	}
	for i := range all {
		for _, e := range []api.Event{{Kind: all[i].Kind + 1, V: all[i].V}, {Kind: all[i].Kind, V: all[i].V ^ 1}, {}} {
			other := slices.Clone(all)
			other[i] = e
			for n := range len(all) + 1 {
				if Prefix(all[:n], other) != (n <= i) || Prefix(other[:n], all) != (n <= i) {
					t.Errorf("P3.1: Prefix of the first %d, where number %d differs, is not %v", n, i, n <= i)
				}
			}
		}
	}
}

func TestPrefixWithoutEvents(t *testing.T) {
	none := []api.Event{}
	if !Prefix(nil, nil) || !Prefix(none, nil) || !Prefix(nil, none) || !Prefix(nil, events(in(1))) || Prefix(events(in(1)), nil) || Prefix(events(in(0)), none) {
		t.Errorf("P3.1: Prefix of no events")
	}
}

// How the events of a target stand to those of a source.
const (
	equal = iota
	shorter
	longer
	apart
)

var pairs = []struct {
	how            int
	target, source []api.Event
}{
	{equal, nil, nil}, {equal, nil, []api.Event{}}, {equal, events(in(1)), events(in(1))},
	{equal, events(in(1), out(2)), events(in(1), out(2))},
	{equal, events(api.Event{Kind: 9, V: 1}), events(api.Event{Kind: 9, V: 1})},
	{shorter, nil, events(in(1))}, {shorter, events(in(1)), events(in(1), out(2))},
	{shorter, events(out(2)), events(out(2), out(2))},
	{longer, events(out(0)), nil}, {longer, events(in(1), out(2)), events(in(1))},
	{apart, events(in(1)), events(out(1))}, {apart, events(in(1)), events(in(2))},
	{apart, events(in(1), out(2)), events(in(1), out(3))}, {apart, events(in(2)), events(in(1), out(2))},
	{apart, events(in(1), out(2)), events(in(2))}, {apart, events(out(2)), events(in(1), out(2))},
	{apart, events(api.Event{Kind: 9, V: 1}), events(api.Event{Kind: 8, V: 1})},
}

// refines says by the chapter's cases what Refines should.
func refines(target, source, how int, sameExit bool) bool {
	switch source {
	case api.Halt:
		switch target {
		case api.Halt:
			return how == equal && sameExit
		case api.Fuel, api.Overflow:
			return how == equal || how == shorter
		}
		return false
	case api.Fuel:
		return how != apart
	case api.Stuck:
		return true
	}
	return false
}

func TestRefinesOfEachKind(t *testing.T) {
	for _, source := range runKinds {
		for _, target := range runKinds {
			for _, p := range pairs {
				for _, exit := range []int64{0, 3, least} {
					a := api.Run{Kind: target, Exit: exit, Events: p.target, Steps: 5}
					b := api.Run{Kind: source, Exit: 3, Events: p.source, Leaks: []api.Leak{{Kind: api.Branch}}}
					if want := refines(target, source, p.how, exit == 3); Refines(a, b) != want {
						t.Errorf("P3.1: Refines(%v, %v) is not %v", a, b, want)
					}
				}
			}
		}
	}
}

func TestRefinesBeforeTheHalt(t *testing.T) {
	source := api.Run{Kind: api.Halt, Exit: 3, Events: events(in(1), out(2))}
	for _, c := range []struct {
		target api.Run
		want   bool
	}{
		{source, true},
		{api.Run{Kind: api.Halt, Exit: 3, Events: events(in(1))}, false},
		{api.Run{Kind: api.Halt, Exit: 4, Events: events(in(1), out(2))}, false},
		{api.Run{Kind: api.Fuel, Events: events(in(1))}, true},
		{api.Run{Kind: api.Overflow}, true},
		{api.Run{Kind: api.Fuel, Events: events(in(1), out(2), out(3))}, false},
		{api.Run{Kind: api.Stuck}, false},
		{api.Run{}, false},
	} {
		if Refines(c.target, source) != c.want {
			t.Errorf("P3.1: Refines(%v, %v) is not %v", c.target, source, c.want)
		}
	}
}

func TestOuts(t *testing.T) {
	for _, c := range []struct {
		events []api.Event
		want   []int64
	}{
		{nil, nil},
		{events(in(1), in(2)), nil},
		{events(out(3), in(1), out(3), out(0), in(2), out(-4)), []int64{3, 3, 0, -4}},
		{events(out(least), out(greatest)), []int64{least, greatest}},
	} {
		for _, kind := range runKinds {
			if l := Outs(api.Run{Kind: kind, Exit: 8, Events: c.events}); !slices.Equal(l, c.want) {
				t.Errorf("P3.1: Outs of %v: %v, not %v", c.events, l, c.want)
			}
		}
	}
}

func TestOutsOfEventsOfNoKind(t *testing.T) {
	for _, kind := range wrongKinds {
		odd := api.Event{Kind: kind, V: 6}
		if l := Outs(api.Run{Kind: api.Halt, Events: events(odd, out(7), odd)}); !slices.Equal(l, []int64{7}) {
			t.Errorf("P3.1: Outs with an event of Kind %d: %v", kind, l)
		}
	}
}

func TestOutsIsNewMemory(t *testing.T) {
	r := whole(api.Halt)
	a, b := Outs(r), Outs(r)
	a[0] = 99
	_ = append(a[:1], 98)
	if !slices.Equal(b, []int64{-7, 4}) || !slices.Equal(Outs(r), b) || !Same(r, whole(api.Halt)) {
		t.Errorf("R4: Outs shares its answer: %v, %v", b, r)
	}
}

func wantText(t *testing.T, r api.Run, want string) {
	t.Helper()
	if s := Text(r); s != want {
		t.Errorf("P3.2: Text(%v): %q, not %q", r, s, want)
	}
}

func TestTextExample(t *testing.T) {
	wantText(t, api.Run{Kind: api.Halt, Exit: 3, Events: events(out(7))}, "out 7\nhalt 3\n")
}

func TestTextOfEnds(t *testing.T) {
	for _, n := range []int64{0, 1, -1, 9, 10, -10, 100, least, greatest} {
		wantText(t, api.Run{Kind: api.Halt, Exit: n}, "halt "+strconv.FormatInt(n, 10)+"\n")
	}
	// Exit is of Halt alone.
	wantText(t, api.Run{Kind: api.Fuel, Exit: 5}, "fuel\n")
	wantText(t, api.Run{Kind: api.Stuck, Exit: 5}, "stuck\n")
	wantText(t, api.Run{Kind: api.Overflow, Exit: 5}, "overflow\n")
	for _, kind := range wrongKinds {
		wantText(t, api.Run{Kind: kind, Exit: 5}, "none\n")
		wantText(t, api.Run{Kind: kind, Events: events(in(5), out(5))}, "in 5\nout 5\nnone\n")
	}
}

func TestTextOfEvents(t *testing.T) {
	r := whole(api.Fuel)
	wantText(t, r, "in 4\nout -7\nout 4\nfuel\n")
	r.Leaks, r.Steps = nil, 0
	wantText(t, r, "in 4\nout -7\nout 4\nfuel\n")
	r = api.Run{Kind: api.Stuck, Events: events(in(least), in(greatest), out(least), out(greatest), in(0), out(0))}
	wantText(t, r, "in -9223372036854775808\nin 9223372036854775807\nout -9223372036854775808\nout 9223372036854775807\nin 0\nout 0\nstuck\n")
}

func TestTextOfManyEvents(t *testing.T) {
	r := api.Run{Kind: api.Overflow}
	for range 50000 {
		r.Events = append(r.Events, in(-1), out(12))
	}
	if Text(r) != strings.Repeat("in -1\nout 12\n", 50000)+"overflow\n" {
		t.Errorf("P3.2: Text of many events")
	}
}

// An event of no Kind has a line all the same, and none that Outs would gainsay.
func TestTextOfEventsOfNoKind(t *testing.T) {
	for _, kind := range wrongKinds {
		odd := api.Event{Kind: kind, V: -6}
		wantText(t, api.Run{Kind: api.Halt, Events: events(out(1), odd, out(2))}, "out 1\nin -6\nout 2\nhalt 0\n")
	}
}

func TestRunsAreNotChanged(t *testing.T) {
	a, b := whole(api.Halt), whole(api.Halt)
	a.Events = append(make([]api.Event, 0, 8), a.Events[:2]...)
	spare := a.Events[:8]
	spare[2] = out(55)
	Same(a, b)
	Leaks(a, b)
	Prefix(a.Events, b.Events)
	Refines(a, b)
	Text(a)
	Outs(a)
	if !slices.Equal(spare, append(events(in(4), out(-7), out(55)), make([]api.Event, 5)...)) || !slices.Equal(a.Leaks, b.Leaks) {
		t.Errorf("R4: a run that was handed in was changed: %v", a)
	}
	if !Same(b, whole(api.Halt)) || !Leaks(b, whole(api.Halt)) {
		t.Errorf("R4: a run that was handed in was changed: %v", b)
	}
}
