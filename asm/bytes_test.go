package asm_test

import (
	"math/rand"
	"testing"

	"plumbob/api"
	"plumbob/asm"
	"plumbob/bricks"
	"plumbob/listings"
)

// TestUnlabelled has runs in which Labels use no fuel, with all fuels that they may use.
func TestUnlabelled(t *testing.T) {
	for _, c := range []struct {
		what string
		code []asm.Ins
		fuel int
		want string
	}{
		{"labels side by side", row(label(1), label(2), movK(0, 5), label(3), ret), 2, "halt 5|2"}, {"the same with less", row(label(1), label(2), movK(0, 5), label(3), ret), 1, "fuel|1"}, {"a goal", row(movK(0, 5), jmp(3), ret, label(3), ret), 3, "halt 5|3"}, {"one at the end", row(jmp(3), label(3)), 1, "stuck|1"}, {"no fuel", row(label(3), ret), 0, "fuel|0"}, {"a jump to itself", row(label(3), jmp(3)), 7, "fuel|7"}, {"a choice", row(movK(0, 5), cmp(0, 0), jcc(api.Eq, 3), ret, label(3), ret), 4, "halt 5|branch1,0 4"},
	} {
		if r, e := asm.RunUnlabelled(program(c.code), nil, nil, c.fuel, 8); told(r) != c.want || e != api.OK {
			t.Errorf("P22.3: %s, with fuel %d: %s (%d), want %s", c.what, c.fuel, told(r), e, c.want)
		}
	}
	ends := map[int]int{}
	for seed := range int64(600) {
		r := rand.New(rand.NewSource(seed))
		p := listings.New(r.Intn, int(seed%3)*30).Deep(int(seed%2) * 20).Program()
		if seed%4 == 0 {
			p = listings.Wild(r.Intn)
		}
		args, world, limit := bricks.Some(r.Intn, p.Params), bricks.Some(r.Intn, 3), []int{all, 2000, 60}[r.Intn(3)]
		last := 3000
		for fuel := last; fuel >= 0; fuel -= 1 + last/9 {
			second := &second{p: p, fuel: fuel, limit: limit, isFree: true}
			second.begin(args, world)
			run, e := asm.RunUnlabelled(p, args, world, fuel, limit)
			if e != api.OK || told(run) != told(second.run) {
				t.Fatalf("P22.3: %.3000s with fuel %d: %.2000s (%d), by the second reading %.2000s", asm.Text(p), fuel, told(run), e, told(second.run))
			}
			ends[run.Kind]++
			if fuel == last {
				last = min(last, run.Steps+1)
				fuel = last
			}
		}
	}
	for kind := api.Halt; kind <= api.Overflow; kind++ {
		if ends[kind] < 60 {
			t.Errorf("P22.3: those made by chance end %v", ends)
		}
	}
}

// TestUnlabelledRefused has what Run refuses.
func TestUnlabelledRefused(t *testing.T) {
	good := taking(1, program(row(ret)))
	for _, c := range []struct {
		p           asm.Prog
		args        []int64
		fuel, limit int
		want        api.Errno
	}{
		{good, l(1), 100000000, all, api.OK}, {good, l(1), 0, 0, api.OK}, {good, nil, 9, 9, api.EARG}, {good, l(1, 2), 9, 9, api.EARG}, {good, l(1), -1, 9, api.EARG}, {good, l(1), 100000001, 9, api.EARG}, {good, l(1), 9, -1, api.EARG}, {good, l(1), 9, all + 1, api.EARG}, {taking(1, program(row(movK(4, 1)))), l(1), 9, 9, api.EARG}, {taking(7, program(row(ret))), l(1, 2, 3, 4, 5, 6, 7), 9, 9, api.EARG},
	} {
		r, e := asm.RunUnlabelled(c.p, c.args, nil, c.fuel, c.limit)
		if e != c.want || e != api.OK && told(r) != told(api.Run{}) {
			t.Errorf("P22.3: %v, %d, %d: %s, %d", c.args, c.fuel, c.limit, told(r), e)
		}
		if isGood := asm.Good(c.p); isGood && asm.Fits(c.p.Params, c.args, c.fuel, c.limit) != (c.want == api.OK) {
			t.Errorf("Fits: %v, %d, %d", c.args, c.fuel, c.limit)
		}
	}
}

// TestFormed: an instruction is formed, just if some program may have it.
func TestFormed(t *testing.T) {
	formed, unformed := 0, 0
	for seed := range int64(30000) {
		for _, f := range listings.Broken(rand.New(rand.NewSource(seed)).Intn).Funcs {
			for _, i := range f.Code {
				if asm.Formed(i) != mayBe(i) {
					t.Fatalf("%+v: Formed %t", i, asm.Formed(i))
				}
				if mayBe(i) {
					formed++
				} else {
					unformed++
				}
			}
		}
	}
	if formed < 500 || unformed < 500 {
		t.Errorf("%d are formed, %d are not", formed, unformed)
	}
	for _, op := range []int{lowest, -1, 0, 27, highest} {
		if asm.Formed(asm.Ins{Op: op}) {
			t.Errorf("Op %d is formed", op)
		}
	}
}

// mayBe tells whether a program with enough functions, globals and Labels takes an instruction: how many there are has no end here.
func mayBe(i asm.Ins) bool {
	code := row(i, ret)
	switch i.Op {
	case asm.Call:
		return i.Sub >= 0
	case asm.LeaG:
		return i.Sub >= 0 && i.K >= 0 && i.R >= 0 && i.R < 16 && i.R != 4
	case asm.Jmp, asm.Jcc:
		code = append(code, label(i.L))
	}
	return asm.Good(program(code))
}
