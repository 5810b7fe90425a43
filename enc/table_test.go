package enc_test

import (
	"encoding/hex"
	"math/big"
	"strings"

	"plumbob/api"
	"plumbob/asm"
	"plumbob/enc"
)

// line is a line of chapter 22's table, as the chapter writes it: those of a Jcc or Set are of one condition each.
type line struct {
	i     asm.Ins // Op, Sub and Cc
	bytes string
}

// far is the second form of MovK.
const far = "w B8+R d8"

// table has them all.
func table() []line {
	l := []line{
		{asm.Ins{Op: asm.MovR}, "w 89 /r M,R"}, {asm.Ins{Op: asm.MovK}, "w C7 /r 0,R d4"}, {asm.Ins{Op: asm.MovK}, far},
		{asm.Ins{Op: asm.Load, Sub: 8}, "w 8B [R,M+K]"}, {asm.Ins{Op: asm.Load, Sub: 4}, "w 63 [R,M+K]"}, {asm.Ins{Op: asm.Load, Sub: 1}, "w 0F BE [R,M+K]"},
		{asm.Ins{Op: asm.Store, Sub: 8}, "w 89 [R,M+K]"}, {asm.Ins{Op: asm.Store, Sub: 4}, "x 89 [R,M+K]"}, {asm.Ins{Op: asm.Store, Sub: 1}, "x 88 [R,M+K]"},
		{asm.Ins{Op: asm.Lea}, "w 8D [R,M+K]"}, {asm.Ins{Op: asm.LeaG}, "w 8D 05+8R d4"},
		{asm.Ins{Op: asm.Alu, Sub: api.Add}, "w 01 /r M,R"}, {asm.Ins{Op: asm.Alu, Sub: api.Sub}, "w 29 /r M,R"}, {asm.Ins{Op: asm.Alu, Sub: api.And}, "w 21 /r M,R"}, {asm.Ins{Op: asm.Alu, Sub: api.Or}, "w 09 /r M,R"}, {asm.Ins{Op: asm.Alu, Sub: api.Xor}, "w 31 /r M,R"}, {asm.Ins{Op: asm.Alu, Sub: api.Mul}, "w 0F AF /r R,M"},
		{asm.Ins{Op: asm.AluK, Sub: api.Add}, "w 81 /r 0,R d4"}, {asm.Ins{Op: asm.AluK, Sub: api.Or}, "w 81 /r 1,R d4"}, {asm.Ins{Op: asm.AluK, Sub: api.And}, "w 81 /r 4,R d4"}, {asm.Ins{Op: asm.AluK, Sub: api.Sub}, "w 81 /r 5,R d4"}, {asm.Ins{Op: asm.AluK, Sub: api.Xor}, "w 81 /r 6,R d4"}, {asm.Ins{Op: asm.AluK, Sub: api.Mul}, "w 69 /r R,R d4"},
		{asm.Ins{Op: asm.Un, Sub: api.Not}, "w F7 /r 2,R"}, {asm.Ins{Op: asm.Un, Sub: api.Neg}, "w F7 /r 3,R"}, {asm.Ins{Op: asm.Ext, Sub: api.Ext8}, "w 0F BE /r R,M"}, {asm.Ins{Op: asm.Ext, Sub: api.Ext32}, "w 63 /r R,M"},
		{asm.Ins{Op: asm.Shift, Sub: api.Shl}, "w C1 /r 4,R d1"}, {asm.Ins{Op: asm.Shift, Sub: api.Shr}, "w C1 /r 7,R d1"}, {asm.Ins{Op: asm.ShiftC, Sub: api.Shl}, "w D3 /r 4,R"}, {asm.Ins{Op: asm.ShiftC, Sub: api.Shr}, "w D3 /r 7,R"},
		{asm.Ins{Op: asm.Cqo}, "48 99"}, {asm.Ins{Op: asm.Idiv}, "w F7 /r 7,M"}, {asm.Ins{Op: asm.Cmp}, "w 39 /r M,R"}, {asm.Ins{Op: asm.CmpK}, "w 81 /r 7,R d4"},
		{asm.Ins{Op: asm.Jmp}, "E9 d4"}, {asm.Ins{Op: asm.Call}, "E8 d4"}, {asm.Ins{Op: asm.Ret}, "C3"}, {asm.Ins{Op: asm.Enter}, "48 81 EC d4"}, {asm.Ins{Op: asm.Leave}, "48 81 C4 d4"}, {asm.Ins{Op: asm.InI}, "48 ED"}, {asm.Ins{Op: asm.OutI}, "48 EF"},
	}
	for _, c := range []struct {
		cc    int
		digit string
	}{{api.Eq, "4"}, {api.Ne, "5"}, {api.Lt, "C"}, {api.Ge, "D"}, {api.Le, "E"}, {api.Gt, "F"}} {
		l = append(l, line{asm.Ins{Op: asm.Jcc, Cc: c.cc}, "0F 8" + c.digit + " d4"}, line{asm.Ins{Op: asm.Set, Cc: c.cc}, "x 0F 9" + c.digit + " /r 0,R w 0F B6 /r R,R"})
	}
	return l
}

// lay reads a line with registers: the bytes up to the number at its end, and of how many bytes that is.
func lay(bytes string, r, m int) (b []byte, tail int) {
	number := map[string]int{"R": r, "M": m, "0": 0, "1": 1, "2": 2, "3": 3, "4": 4, "5": 5, "6": 6, "7": 7}
	prefix := 0 // where the last one is
	both := func(mode byte, in string) {
		reg, rm, _ := strings.Cut(in, ",")
		b[prefix] |= byte(number[reg]/8*4 + number[rm]/8)
		b = append(b, mode+byte(number[reg]%8*8+number[rm]%8))
	}
	for _, word := range strings.Fields(bytes) {
		switch word {
		case "w", "x":
			prefix = len(b)
			b = append(b, map[string]byte{"w": 0x48, "x": 0x40}[word])
		case "/r":
		case "[R,M+K]":
			both(0x80, "R,M")
			if m%8 == 4 {
				b = append(b, 0x24)
			}
			tail = 4
		case "B8+R":
			b[prefix] |= byte(r / 8)
			b = append(b, 0xB8+byte(r%8))
		case "05+8R":
			b[prefix] |= byte(r / 8 * 4)
			b = append(b, 5+8*byte(r%8))
		case "d1", "d4", "d8":
			tail = int(word[1] - '0')
		default:
			if strings.Contains(word, ",") {
				both(0xC0, word)
				break
			}
			one, _ := hex.DecodeString(word)
			b = append(b, one...)
		}
	}
	return b, tail
}

// number lays one into so many bytes.
func number(n int64, count int) (b []byte) {
	for range count {
		b = append(b, byte(n))
		n >>= 8
	}
	return b
}

// toldBy reads it, with its sign.
func toldBy(b []byte) (n int64) {
	for at, one := range b {
		n |= int64(one) << (8 * at)
	}
	lost := 64 - 8*len(b)
	return n << lost >> lost
}

// head is what stands ahead of an instruction's number.
type head struct {
	i    asm.Ins // all fields but those of the number
	tail int
}

// second reads bytes by a second reading of chapter 22: it has all that may stand ahead of numbers.
type second struct {
	heads   map[string]head
	forms   map[asm.Ins][]string // of an Op, Sub and Cc the lines
	longest int
}

func newSecond() *second {
	s := &second{heads: map[string]head{}, forms: map[asm.Ins][]string{}}
	for _, l := range table() {
		s.forms[l.i] = append(s.forms[l.i], l.bytes)
		for r := range 16 {
			for m := range 16 {
				s.add(l, r, m)
			}
		}
	}
	return s
}

// add has one of a line's, if chapter 20 takes it.
func (s *second) add(l line, r, m int) {
	i := l.i
	if strings.Contains(l.bytes, "R") {
		i.R = r
	}
	if strings.Contains(l.bytes, "M") {
		i.M = m
	}
	if !alone(i, nil, 1) {
		return
	}
	bytes, tail := lay(l.bytes, r, m)
	s.heads[string(bytes)] = head{i, tail}
	s.longest = max(s.longest, len(bytes))
}

// alone tells whether chapter 20 takes an instruction in a program that has so many functions, and the globals that it names.
func alone(i asm.Ins, sizes []int, functions int) bool {
	p := asm.Prog{Funcs: []asm.Func{{Code: []asm.Ins{i}}}}
	switch i.Op {
	case asm.Jmp, asm.Jcc:
		p.Funcs[0].Code = append(p.Funcs[0].Code, asm.Ins{Op: asm.Label, L: i.L})
	case asm.Call:
		return i.Sub >= 0 && i.Sub < functions
	case asm.LeaG: // that it fits has been asked of the place
		return i.R != 4
	}
	return asm.Good(p)
}

// read is what Decode must answer at an offset of the code.
func (s *second) read(m enc.Image, at int) (asm.Ins, int, bool) {
	for n := 1; n <= s.longest && at+n <= len(m.Code); n++ {
		h, ok := s.heads[string(m.Code[at:at+n])]
		if !ok {
			continue
		}
		n += h.tail
		if at+n > len(m.Code) {
			return asm.Ins{}, 0, false
		}
		i, ok := joined(h.i, toldBy(m.Code[at+n-h.tail:at+n]), at+n, m)
		if !ok || !alone(i, m.Globals, len(m.Starts)) {
			return asm.Ins{}, 0, false
		}
		return i, n, true
	}
	return asm.Ins{}, 0, false
}

// joined has what its number, ahead of an offset, says.
func joined(i asm.Ins, k int64, behind int, m enc.Image) (asm.Ins, bool) {
	goal := behind + int(k)
	switch i.Op {
	case asm.Jmp, asm.Jcc:
		i.L = goal
		return i, goal >= 0 && goal <= len(m.Code)
	case asm.Call:
		for n, start := range m.Starts {
			if start == goal {
				i.Sub = n
				return i, true
			}
		}
		return i, false
	case asm.LeaG:
		for n, place := range places(m.Globals) {
			k := new(big.Int).Sub(big.NewInt(int64(goal)), place)
			if k.Sign() >= 0 && k.Cmp(big.NewInt(int64(m.Globals[n]))) <= 0 {
				i.Sub, i.K = n, k.Int64()
				return i, true
			}
		}
		return i, false
	}
	i.K = k
	return i, true
}

// places tells where globals stand.
func places(sizes []int) (l []*big.Int) {
	next := big.NewInt(0x1000000)
	for _, size := range sizes {
		l = append(l, next)
		next = new(big.Int).Add(next, big.NewInt(int64(size)))
		next.Add(next, big.NewInt(16))
		for new(big.Int).And(next, big.NewInt(15)).Sign() != 0 {
			next.Add(next, big.NewInt(1))
		}
	}
	return l
}

// bytes is an instruction's, with such a number at its end, if it goes on elsewhere.
func (s *second) bytes(i asm.Ins, away int) []byte {
	if i.Op == asm.Label {
		return nil
	}
	i = bare(i)
	forms := s.forms[asm.Ins{Op: i.Op, Sub: i.Sub, Cc: i.Cc}]
	switch i.Op {
	case asm.LeaG, asm.Call:
		forms = s.forms[asm.Ins{Op: i.Op}]
	}
	form := forms[0]
	if i.Op == asm.MovK && (i.K < -1<<31 || i.K > 1<<31-1) {
		form = far
	}
	b, tail := lay(form, i.R, i.M)
	switch i.Op {
	case asm.LeaG, asm.Call, asm.Jmp, asm.Jcc:
		return append(b, number(int64(away), tail)...)
	}
	return append(b, number(i.K, tail)...)
}

// image is what Encode must answer of a program that is well formed.
func (s *second) image(p asm.Prog) enc.Image {
	m := enc.Image{Globals: p.Globals, Main: p.Main, Params: p.Params}
	at := 0
	labels := make([]map[int]int, len(p.Funcs))
	for n, f := range p.Funcs {
		m.Starts = append(m.Starts, at)
		labels[n] = map[int]int{}
		for _, i := range f.Code {
			if i.Op == asm.Label {
				labels[n][i.L] = at
			}
			at += len(s.bytes(i, 0))
		}
	}
	globals := places(p.Globals)
	for n, f := range p.Funcs {
		for _, i := range f.Code {
			goal := 0
			switch i.Op {
			case asm.Jmp, asm.Jcc:
				goal = labels[n][i.L]
			case asm.Call:
				goal = m.Starts[i.Sub]
			case asm.LeaG:
				goal = int(globals[i.Sub].Int64() + i.K)
			}
			m.Code = append(m.Code, s.bytes(i, goal-len(m.Code)-len(s.bytes(i, 0)))...)
		}
	}
	return m
}
