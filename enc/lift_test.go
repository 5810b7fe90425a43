package enc_test

import (
	"fmt"
	"math/rand"
	"slices"
	"strings"
	"testing"

	"plumbob/api"
	"plumbob/asm"
	"plumbob/enc"
	"plumbob/listings"
)

// lift is what Lift must answer, by the second reading.
func (s *second) lift(m enc.Image) (asm.Prog, bool) {
	p := asm.Prog{Globals: m.Globals, Main: m.Main, Params: m.Params}
	if m.Main < 0 || m.Main >= len(m.Starts) || m.Starts[0] != 0 {
		return asm.Prog{}, false
	}
	for n, start := range m.Starts {
		end := len(m.Code)
		if n+1 < len(m.Starts) {
			end = m.Starts[n+1]
		}
		if start >= end || end > len(m.Code) {
			return asm.Prog{}, false
		}
		at := start
		begins, goals, labelled := map[int]asm.Ins{}, map[int]bool{}, []asm.Ins{}
		for at < end {
			i, size, ok := s.read(m, at)
			if !ok {
				return asm.Prog{}, false
			}
			if i.Op == asm.Jmp || i.Op == asm.Jcc {
				goals[i.L] = true
			}
			begins[at] = i
			at += size
		}
		for offset := start; offset <= end; offset++ {
			i, isThere := begins[offset]
			if goals[offset] && (isThere || offset == end) {
				labelled = append(labelled, label(offset))
				delete(goals, offset)
			}
			if isThere {
				labelled = append(labelled, i)
			}
		}
		if at != end || len(goals) > 0 {
			return asm.Prog{}, false
		}
		p.Funcs = append(p.Funcs, asm.Func{Name: fmt.Sprint("f", n), Code: labelled})
	}
	return p, true
}

// lifts asks that Lift answers what the second reading does, and tells whether that is a program.
func (s *second) lifts(t *testing.T, m enc.Image) bool {
	t.Helper()
	want, ok := s.lift(m)
	p, e := lifted(t, m)
	if ok != (e == api.OK) || asm.Text(p) != asm.Text(want) {
		t.Fatalf("P22.3: Lift of %.2000s: %d, %.2000s; want %.2000s", dumpImage(m), e, asm.Text(p), asm.Text(want))
	}
	return ok
}

// toldShort tells functions' names and code.
func toldShort(p asm.Prog) string {
	text := asm.Text(p)
	text = text[strings.Index(text, "function"):]
	return strings.ReplaceAll(strings.TrimSuffix(text, "\n"), "\n", ";")
}

// TestLabels has programs with Labels: each goal has one, ahead of its instruction, once; no other one stays.
func TestLabels(t *testing.T) {
	for _, c := range []struct {
		what string
		code [][]asm.Ins
		want string
	}{
		{"none", [][]asm.Ins{row(cqo, ret)}, `function 0 "f0";	cqo;	ret`}, {"one that is no goal", [][]asm.Ins{row(label(3), cqo, label(4), ret, label(5))}, `function 0 "f0";	cqo;	ret`}, {"one at the beginning", [][]asm.Ins{row(label(3), cqo, jmp(3))}, `function 0 "f0";	label L=0;	cqo;	jmp L=0`}, {"one at the end", [][]asm.Ins{row(cqo, jmp(3), label(3))}, `function 0 "f0";	cqo;	jmp L=7;	label L=7`}, {"a goal of two", [][]asm.Ins{row(jmp(3), jcc(api.Eq, 3), label(3), ret)}, `function 0 "f0";	jmp L=11;	jcc Cc=eq L=11;	label L=11;	ret`}, {"two at one place", [][]asm.Ins{row(jmp(3), jmp(4), label(3), label(4), ret)}, `function 0 "f0";	jmp L=10;	jmp L=10;	label L=10;	ret`}, {"two goals", [][]asm.Ins{row(jmp(4), label(3), cqo, label(4), jmp(3))}, `function 0 "f0";	jmp L=7;	label L=5;	cqo;	label L=7;	jmp L=5`},
		{"ends and beginnings", [][]asm.Ins{row(jmp(1), label(1)), row(ret), row(label(7), jmp(7)), row(jmp(1), ret, label(1)), row(ret)}, `function 0 "f0";	jmp L=5;	label L=5;function 1 "f1";	ret;function 2 "f2";	label L=6;	jmp L=6;function 3 "f3";	jmp L=17;	ret;	label L=17;function 4 "f4";	ret`}, {"calls", [][]asm.Ins{row(call(1), leaG(3, 1, 8), ret), row(call(0), call(1), ret)}, `function 0 "f0";	call Sub=1;	leag Sub=1 R=rbx K=8;	ret;function 1 "f1";	call Sub=0;	call Sub=1;	ret`},
	} {
		p := program(c.code...)
		p.Main, p.Params = len(c.code)-1, 3
		q, e := lifted(t, encoded(t, p))
		if e != api.OK || toldShort(q) != c.want || fmt.Sprint(q.Globals, q.Main, q.Params) != fmt.Sprint(p.Globals, p.Main, p.Params) || !asm.Good(q) {
			t.Errorf("P22.3: %s: %s, %d; want %s", c.what, asm.Text(q), e, c.want)
		}
	}
}

// TestLiftRefused has each reason by itself, and what is one no more.
func TestLiftRefused(t *testing.T) {
	const two = "c3 48 99 c3"
	for _, c := range []struct {
		what string
		m    enc.Image
		main int
		want bool
	}{
		{"a right one", starting(image(two), 0, 1), 0, true}, {"the last one main", starting(image(two), 0, 1), 1, true}, {"main -1", starting(image(two), 0, 1), -1, false}, {"main 2", starting(image(two), 0, 1), 2, false}, {"the least main", starting(image(two), 0, 1), lowest, false}, {"the greatest main", starting(image(two), 0, 1), highest, false},
		{"no starts", starting(image(two)), 0, false}, {"nothing at all", enc.Image{}, 0, false}, {"no code", image(""), 0, false}, {"starts from 1", starting(image(two), 1), 0, false}, {"starts from -1", starting(image(two), -1, 0), 0, false}, {"starts alike", starting(image(two), 0, 0), 0, false}, {"starts alike later", starting(image(two), 0, 1, 1), 0, false}, {"starts that fall", starting(image(two), 0, 3, 1), 0, false}, {"a start at the end", starting(image(two), 0, 4), 0, false}, {"a start beyond it", starting(image(two), 0, 5), 0, false}, {"a start far beyond it", starting(image(two), 0, highest), 0, false}, {"a start far below", starting(image(two), 0, lowest), 0, false}, {"a start at the last byte", starting(image(two), 0, 1, 3), 2, true}, {"each start", starting(image("c3 c3 c3"), 0, 1, 2), 2, true},
		{"one that reaches over the end", starting(image(two), 0, 2), 0, false}, {"the last one cut", image("c3 48"), 0, false}, {"no instruction", image("c3 90"), 0, false}, {"none at first", image("90 c3"), 0, false}, {"none in the second", starting(image("c3 90 c3"), 0, 1), 0, false}, {"one that reads on in the next one", starting(image("48 c7 c0 05 00 00 00 c3"), 0, 7), 0, true}, {"one that reaches into the next one", starting(image("48 c7 c0 05 00 00 c3 c3"), 0, 6), 0, false},
		{"a goal", image("c3 e9 fa ff ff ff"), 0, true}, {"a goal inside", image("48 99 e9 fa ff ff ff"), 0, false}, {"a goal inside itself", image("e9 fd ff ff ff"), 0, false}, {"a goal at the end", image("e9 00 00 00 00"), 0, true}, {"a goal beyond", image("e9 01 00 00 00"), 0, false}, {"a goal below", image("e9 fa ff ff ff"), 0, false},
		{"a goal at the function's end", starting(image("e9 00 00 00 00 c3"), 0, 5), 0, true}, {"one behind it", starting(image("e9 01 00 00 00 c3 c3"), 0, 5), 0, false}, {"at the code's end", starting(image("e9 01 00 00 00 c3"), 0, 5), 0, false}, {"one function ahead", starting(image("c3 e9 fa ff ff ff"), 0, 1), 0, false}, {"at its own start", starting(image("c3 e9 fb ff ff ff"), 0, 1), 0, true}, {"a choice one function ahead", starting(image("c3 0f 84 f9 ff ff ff c3"), 0, 1), 0, false}, {"a choice inside", image("48 99 0f 84 f9 ff ff ff"), 0, false}, {"a choice at the end", image("0f 84 00 00 00 00"), 0, true},
		{"a call of none", image("e8 01 00 00 00 c3"), 0, false}, {"a call of one", image("e8 fb ff ff ff c3"), 0, true}, {"a global that is none", having(image("48 8d 1d f9 ff ff 00")), 0, false}, {"a global", having(image("48 8d 1d f9 ff ff 00"), 0), 0, true},
	} {
		c.m.Main = c.main
		p, e := lifted(t, c.m)
		if (e == api.OK) != c.want {
			t.Errorf("P22.3: Lift of %s: %d, %s", c.what, e, asm.Text(p))
		}
		if r, g := enc.Run(c.m, nil, nil, 9, 99); g != e || c.want && r.Kind == 0 || !c.want && told(r) != told(api.Run{}) {
			t.Errorf("P22.3: Run of %s: %d, %s", c.what, g, told(r))
		}
	}
}

// TestLiftOfAny has images whose numbers no program may have: Lift takes them, and Run does not.
func TestLiftOfAny(t *testing.T) {
	many := enc.Image{Code: slices.Repeat([]byte{0xC3}, 300)}
	for n := range 300 {
		many.Starts = append(many.Starts, n)
	}
	long := enc.Image{Code: slices.Repeat([]byte{0xC3}, 100001), Starts: []int{0}}
	for what, m := range map[string]enc.Image{
		"7 params": {Code: []byte{0xC3}, Starts: []int{0}, Params: 7}, "-1 params": {Code: []byte{0xC3}, Starts: []int{0}, Params: -1}, "a global below 0": {Code: []byte{0xC3}, Starts: []int{0}, Globals: []int{8, -1}}, "one too great": {Code: []byte{0xC3}, Starts: []int{0}, Globals: []int{65537}}, "300 globals": {Code: []byte{0xC3}, Starts: []int{0}, Globals: make([]int, 300)}, "300 functions": many, "100001 instructions": long,
	} {
		p, e := lifted(t, m)
		count := 0
		for _, f := range p.Funcs {
			count += len(f.Code)
		}
		if e != api.OK || !slices.Equal(p.Globals, m.Globals) || p.Params != m.Params || len(p.Funcs) != len(m.Starts) || count != len(m.Code) {
			t.Errorf("P22.3: Lift with %s: %d", what, e)
		}
		for params := range 8 {
			if r, e := enc.Run(m, make([]int64, params), nil, 9, 99); e != api.EARG || told(r) != told(api.Run{}) {
				t.Errorf("P22.3: Run with %s, and %d args: %d, %s", what, params, e, told(r))
			}
		}
	}
}

// TestLiftByChance has images of programs by chance, and such as are changed: Lift answers what the second reading does.
func TestLiftByChance(t *testing.T) {
	t.Parallel()
	s := newSecond()
	right, wrong := 0, 0
	for seed := range int64(2500) {
		r := rand.New(rand.NewSource(seed))
		p := listings.Wild(r.Intn)
		if seed%5 == 0 {
			p = listings.New(r.Intn, 30).Deep(10).Program()
		}
		m := encoded(t, p)
		if !s.lifts(t, m) {
			t.Fatalf("P22.4: Lift of what Encode makes of %s", asm.Text(p))
		}
		for range 8 {
			if s.lifts(t, changed(r, m)) {
				right++
			} else {
				wrong++
			}
		}
	}
	if right < 3000 || wrong < 3000 {
		t.Errorf("P22.3: %d of the changed ones are right, %d are not", right, wrong)
	}
}

// changed is an image of which something is another one.
func changed(r *rand.Rand, m enc.Image) enc.Image {
	m.Code, m.Starts, m.Globals = slices.Clone(m.Code), slices.Clone(m.Starts), slices.Clone(m.Globals)
	at, start := r.Intn(len(m.Code)), r.Intn(len(m.Starts))
	switch r.Intn(9) {
	case 0:
		m.Starts[start] = at
	case 1:
		m.Starts = slices.Insert(m.Starts, start+1, m.Starts[start]+r.Intn(12))
	case 2:
		m.Starts = slices.Delete(m.Starts, start, start+1)
	case 3:
		m.Code = m.Code[:at]
	case 4:
		m.Code = slices.Insert(m.Code, at, byte(r.Intn(256)))
	case 5:
		m.Main = r.Intn(len(m.Starts) + 1)
	case 6:
		m.Globals[r.Intn(len(m.Globals))] += r.Intn(9) - 4
	default:
		m.Code[at] = byte(int(m.Code[at]) + r.Intn(9) - 4)
	}
	return m
}

// TestLiftRoom: what Lift answers is new memory, each function's code too.
func TestLiftRoom(t *testing.T) {
	m := encoded(t, program(row(leaG(3, 1, 2), jmp(1), label(1), call(1), ret), row(cqo, ret), row(ret)))
	before := dumpImage(m)
	p, _ := enc.Lift(m)
	again, _ := enc.Lift(m)
	want, text := dumpProgram(again), asm.Text(p)
	for n := range p.Funcs {
		code := p.Funcs[n].Code
		_ = append(code, movK(3, 77), movK(3, 78), movK(3, 79))
		if asm.Text(p) != text {
			t.Fatalf("R4: what is behind the code of function %d is another one's: %s", n, asm.Text(p))
		}
	}
	for _, f := range p.Funcs {
		clear(f.Code[:cap(f.Code)])
	}
	clear(p.Globals[:cap(p.Globals)])
	clear(p.Funcs[:cap(p.Funcs)])
	if dumpProgram(again) != want || dumpImage(m) != before {
		t.Errorf("R4: what Lift answers shares memory: %s", dumpProgram(again))
	}
}
