package enc_test

import (
	"fmt"
	"math/rand"
	"slices"
	"testing"

	"plumbob/api"
	"plumbob/asm"
	"plumbob/enc"
)

// decodes asks what Decode answers at an offset: an instruction with Op 0 is none.
func decodes(t *testing.T, what string, m enc.Image, at int, want asm.Ins, size int) {
	t.Helper()
	e := api.OK
	if want.Op == 0 {
		e = api.EFORM
	}
	m = spareImage(m)
	before := dumpImage(m)
	i, n, g := enc.Decode(m, at)
	if i != want || n != size || g != e {
		t.Errorf("P22.2: %s: Decode at %d of %.300s: %+v, %d, %d; want %+v, %d, %d", what, at, before, i, n, g, want, size, e)
	}
	if dumpImage(m) != before {
		t.Errorf("R4: %s: Decode changes %.300s", what, before)
	}
}

// TestDecodeAt has offsets that are none.
func TestDecodeAt(t *testing.T) {
	for _, c := range []struct {
		m  enc.Image
		at []int
	}{{image("c3 48 99"), []int{-1, 3, 4, lowest, highest}}, {image(""), []int{-1, 0, 1}}, {enc.Image{}, []int{-1, 0, 1, highest}}, {image("90"), []int{-1, 1}}} {
		for _, at := range c.at {
			if i, n, e := enc.Decode(c.m, at); i != (asm.Ins{}) || n != 0 || e != api.EARG {
				t.Errorf("P22.2: Decode at %d of %s: %+v, %d, %d", at, dumpImage(c.m), i, n, e)
			}
		}
	}
	decodes(t, "ahead of another one", image("c3 48 99"), 0, ret, 1)
	decodes(t, "the last one", image("c3 48 99"), 1, cqo, 2)
	decodes(t, "inside of one", image("c3 48 99"), 2, asm.Ins{}, 0)
}

// TestNoForm has bytes, written out, that the table does not have.
func TestNoForm(t *testing.T) {
	for what, texts := range map[string][]string{
		"no opcode":                          {"00", "90", "cc", "0f", "0f 05", "0f 0b", "48", "48 48", "f4", "66 90", "48 00 c0", "48 03 c1", "48 0b c1", "48 2b c1", "48 23 c1", "48 33 c1", "48 3b c1", "48 8b c1", "48 83 c0 01", "48 85 c0", "48 98", "48 ff c0", "50", "58", "eb 00", "74 00", "f3 90", "00 00 00 00 00 00 00 00 00 00"},
		"no prefix":                          {"89 d8", "c7 c0 05 00 00 00", "b8 05 00 00 00 00 00 00 00", "8b 81 00 00 00 00", "01 d1", "81 c0 01 00 00 00", "f7 d0", "63 c1", "c1 e0 01", "d3 e0", "99", "f7 fb", "39 d1", "ed", "ef", "88 81 00 00 00 00", "89 81 00 00 00 00", "0f 94 c0 48 0f b6 c0", "40 0f 94 c0 0f b6 c0", "81 ec 08 00 00 00"},
		"a wrong prefix":                     {"40 89 d8", "4a 89 d8", "4f 89 d8", "58 89 d8", "44 8b 81 00 00 00 00", "4a 8b 81 00 00 00 00", "4c c7 c0 05 00 00 00", "4c b8 05 00 00 00 00 00 00 00", "40 b8 05 00 00 00 00 00 00 00", "42 89 81 00 00 00 00", "50 88 81 00 00 00 00", "48 88 81 00 00 00 00", "4c 81 c0 01 00 00 00", "4c f7 d0", "4c c1 e0 01", "4c d3 e0", "49 99", "4c 99", "40 99", "4c f7 fb", "49 ed", "4c ef", "40 ed", "44 0f 94 c0 48 0f b6 c0", "48 0f 94 c0 48 0f b6 c0", "40 0f 94 c0 40 0f b6 c0", "41 0f 94 c0 4c 0f b6 c0", "40 e9 00 00 00 00", "48 e8 00 00 00 00", "40 c3", "48 c3", "40 0f 84 00 00 00 00", "49 8d 05 00 00 00 01", "40 8d 05 00 00 00 01"},
		"two prefixes":                       {"48 48 89 d8", "40 48 89 d8", "48 40 89 d8", "48 48 99", "40 40 88 81 00 00 00 00", "48 40 0f 94 c0 48 0f b6 c0", "40 c3"},
		"another mode":                       {"48 89 18", "48 89 58 00", "48 8b 01", "48 8b 41 00", "48 8d 01", "48 8d c1", "48 01 91 00 00 00 00", "48 0f af 81 00 00 00 00", "48 0f be 00", "48 0f be 40 00", "48 63 00", "48 f7 90 00 00 00 00", "48 8b 05 00 00 00 01", "48 8d 04 25 00 00 00 01", "40 88 c1", "40 89 c1", "48 c7 80 00 00 00 00 00 00 00 00", "40 0f 94 80 00 00 00 00"},
		"another number":                     {"48 c7 c8 05 00 00 00", "48 81 d0 05 00 00 00", "48 81 d8 05 00 00 00", "48 f7 c0", "48 f7 c8", "48 f7 e3", "48 f7 eb", "48 f7 f3", "48 c1 c0 01", "48 c1 e8 01", "48 c1 f0 01", "48 d3 e8", "48 d3 f0", "40 0f 94 c8 48 0f b6 c0", "48 0f b6 c0", "48 69 c8 07 00 00 00", "49 69 c0 07 00 00 00"},
		"a byte that is not 24":              {"48 8b 8c 25 08 00 00 00", "48 8b 8c 64 08 00 00 00", "48 8b 8c a4 08 00 00 00", "48 8b 8c 20 08 00 00 00", "49 8d 9c 00 00 00 00 00", "40 88 8c 23 08 00 00 00"},
		"a 4 that may not be":                {"48 89 c4", "48 c7 c4 05 00 00 00", "48 bc 00 00 00 80 00 00 00 00", "48 8b a1 00 00 00 00", "48 63 a1 00 00 00 00", "48 0f be a1 00 00 00 00", "48 8d a1 00 00 00 00", "48 8d 25 00 00 00 01", "48 01 c4", "48 01 e0", "48 0f af c4", "48 0f af e0", "48 81 e4 01 00 00 00", "48 81 cc 01 00 00 00", "48 81 f4 01 00 00 00", "48 69 e4 01 00 00 00", "48 f7 d4", "48 f7 dc", "48 0f be c4", "48 0f be e0", "48 63 c4", "48 63 e0", "48 c1 e4 01", "48 d3 fc", "48 f7 fc", "48 39 e0", "40 0f 94 c4 48 0f b6 e4"},
		"a number too great":                 {"48 c1 e0 40", "48 c1 f8 ff", "48 81 ec 01 00 01 00", "48 81 ec ff ff ff ff", "48 81 ec 00 00 00 80", "48 81 c4 01 00 01 00", "48 81 c4 ff ff ff ff"},
		"registers of a Set that are unlike": {"40 0f 94 c0 48 0f b6 c1", "40 0f 94 c1 48 0f b6 c0", "40 0f 94 c0 48 0f b6 c8", "41 0f 94 c0 48 0f b6 c0", "40 0f 94 c0 4d 0f b6 c0", "40 0f 94 c0 49 0f b6 c0"},
		"a condition that is none":           {"0f 80 00 00 00 00", "0f 81 00 00 00 00", "0f 82 00 00 00 00", "0f 83 00 00 00 00", "0f 86 00 00 00 00", "0f 87 00 00 00 00", "0f 88 00 00 00 00", "0f 8a 00 00 00 00", "0f 8b 00 00 00 00", "40 0f 90 c0 48 0f b6 c0", "40 0f 97 c0 48 0f b6 c0", "40 0f 9b c0 48 0f b6 c0"},
	} {
		for _, text := range texts {
			m := image(text)
			decodes(t, what, m, 0, asm.Ins{}, 0)
			m.Code = append(m.Code, 0, 0, 0, 0, 0, 0, 0, 0, 0, 0)
			if e := api.EFORM; what != "no opcode" {
				if _, _, g := enc.Decode(m, 0); g != e {
					t.Errorf("P22.2: %s: Decode of %s and more: %d", what, text, g)
				}
			}
		}
	}
}

// TestForms has some that may be taken for others, and both forms of MovK.
func TestForms(t *testing.T) {
	for _, c := range []struct {
		text string
		want asm.Ins
		size int
	}{
		{"48 b8 05 00 00 00 00 00 00 00", movK(0, 5), 10}, {"49 bc ff ff ff ff ff ff ff ff", movK(12, -1), 10}, {"48 b9 00 00 00 80 ff ff ff ff", movK(1, -1<<31), 10}, {"48 b9 00 00 00 80 00 00 00 00", movK(1, 1<<31), 10}, {"48 c7 c1 00 00 00 80", movK(1, -1<<31), 7}, {"49 c7 c4 05 00 00 00", movK(12, 5), 7},
		{"48 81 ec 00 00 01 00", enter(65536), 7}, {"48 81 c4 00 00 00 00", leave(0), 7}, {"49 81 ec ff ff ff ff", aluK(api.Sub, 12, -1), 7}, {"49 81 c4 01 00 01 00", aluK(api.Add, 12, 65537), 7}, {"48 81 fc ff ff ff ff", cmpK(4, -1), 7},
		{"48 c1 e0 3f", shift(api.Shl, 0, 63), 4}, {"48 c1 f8 00", shift(api.Shr, 0, 0), 4}, {"48 89 e0", movR(0, 4), 3}, {"48 39 c4", cmp(4, 0), 3}, {"48 89 a4 24 00 00 00 00", store(8, 4, 0, 4), 8}, {"4c 89 a4 24 00 00 00 00", store(8, 4, 0, 12), 8}, {"49 89 a4 24 00 00 00 00", store(8, 12, 0, 4), 8}, {"48 8d 85 00 00 00 01", lea(0, 5, 0x1000000), 7}, {"48 8d 05 f9 ff ff 00", leaG(0, 0, 0), 7}, {"48 8d 2d f9 ff ff 00", leaG(5, 0, 0), 7}, {"4c 8d 25 f9 ff ff 00", leaG(12, 0, 0), 7},
	} {
		for _, more := range []string{"", " c3", " 24 24 24 24"} {
			decodes(t, c.text, image(c.text+more), 0, c.want, c.size)
			decodes(t, c.text, image("90"+c.text+more), 1, shiftedGlobal(c.want), c.size)
		}
	}
}

// shiftedGlobal is what stands there one byte later.
func shiftedGlobal(i asm.Ins) asm.Ins {
	if i.Op == asm.LeaG {
		i.K++
	}
	return i
}

// numbers are some that an instruction may have at its end, of so many bytes.
func numbers(tail int) [][]byte {
	var l [][]byte
	for _, n := range map[int][]int64{0: {0}, 1: {0, 1, 62, 63, 64, 127, -1}, 4: {0, 1, -1, -5, 1<<31 - 1, -1 << 31, 65535, 65536, 65537, 0x1000000, -20}, 8: {0, 5, -1, lowest, highest, 1 << 31, 1<<31 - 1, -1 << 31, -1<<31 - 1}}[tail] {
		l = append(l, number(n, tail))
	}
	return l
}

// TestAllForms has each instruction, with all registers, and numbers at their edges: it is read as the second reading does.
func TestAllForms(t *testing.T) {
	t.Parallel()
	s := newSecond()
	counts := map[int]int{}
	for bytes, h := range s.heads {
		for _, n := range numbers(h.tail) {
			m := enc.Image{Code: append([]byte(bytes), n...), Starts: []int{0}, Globals: []int{65536, 7}}
			i, ok := s.reads(t, m, 0)
			if ok {
				counts[i.Op]++
			}
			m.Code = slices.Insert(m.Code, 0, 0xE9)
			s.reads(t, m, 1)
		}
	}
	delete(counts, asm.Label)
	if want := 25; len(counts) != want || counts[asm.Load] != 11*3*15*16 || counts[asm.Cmp] != 16*15 || counts[asm.MovK] != (11+9)*15 || counts[asm.Shift] != 4*2*15 || counts[asm.Enter] != 4 {
		t.Errorf("P22.2: of each Op %v", counts)
	}
}

// TestChanged has each byte of instructions changed to each other value: what the table has there is read, or EFORM. Each is cut short, too, and has its prefix left out, or twice.
func TestChanged(t *testing.T) {
	t.Parallel()
	s := newSecond()
	read, unread := 0, 0
	count := func(code []byte) {
		if _, ok := s.reads(t, enc.Image{Code: code, Starts: []int{0, 7}, Globals: []int{16, 0x300}}, 0); ok {
			read++
		} else {
			unread++
		}
	}
	r := rand.New(rand.NewSource(1))
	for _, line := range table() {
		for range 8 {
			b, tail := lay(line.bytes, r.Intn(16), r.Intn(16))
			b = append(b, number(int64(r.Intn(64)), tail)...)
			if b[len(b)-1] == 0 && line.i.Op == asm.LeaG {
				b[len(b)-1] = 1
			}
			for n := range b {
				count(b[:n+1])
				for change := range 256 {
					other := slices.Clone(b)
					other[n] = byte(change)
					count(other)
				}
			}
			for prefix := range 256 {
				count(slices.Insert(slices.Clone(b), 0, byte(prefix)))
			}
			count(b[min(1, len(b)-1):])
		}
	}
	if read < 100000 || unread < 300000 {
		t.Errorf("P22.2: %d are read, %d are not", read, unread)
	}
}

// TestAnyBytes has bytes by chance, most of them such as instructions have.
func TestAnyBytes(t *testing.T) {
	t.Parallel()
	s := newSecond()
	read := 0
	common := []byte{0x40, 0x41, 0x44, 0x45, 0x48, 0x49, 0x4C, 0x4D, 0x48, 0x49, 0x0F, 0x89, 0x8B, 0x8D, 0xE8, 0xE9, 0xC0, 0xC4, 0x84, 0x24, 0x81, 0x80, 0x05, 0xF7, 0, 0, 0xFF, 1}
	for seed := range int64(4000) {
		r := rand.New(rand.NewSource(seed))
		m := enc.Image{Code: make([]byte, 1+r.Intn(60)), Starts: []int{r.Intn(70) - 5, r.Intn(70) - 5, 3}, Globals: []int{0x300000, 0x1000000}}
		for n := range m.Code {
			m.Code[n] = byte(r.Intn(256))
			if r.Intn(4) > 0 {
				m.Code[n] = common[r.Intn(len(common))]
			}
		}
		for at := range m.Code {
			if _, ok := s.reads(t, m, at); ok {
				read++
			}
		}
	}
	if read < 500 {
		t.Errorf("P22.2: just %d are read", read)
	}
}

// TestGoals has jumps and choices that go on at edges, and inside of an instruction.
func TestGoals(t *testing.T) {
	for _, c := range []struct {
		text string
		want asm.Ins
		size int
	}{
		{"e9 fb ff ff ff c3", jmp(0), 5}, {"e9 fa ff ff ff c3", asm.Ins{}, 0}, {"e9 00 00 00 00 c3", jmp(5), 5}, {"e9 01 00 00 00 c3", jmp(6), 5}, {"e9 02 00 00 00 c3", asm.Ins{}, 0}, {"e9 fd ff ff ff c3", jmp(2), 5}, {"e9 ff ff ff 7f", asm.Ins{}, 0}, {"e9 00 00 00 80", asm.Ins{}, 0}, {"e9 00 00 00 00", jmp(5), 5},
		{"0f 84 fa ff ff ff c3", jcc(api.Eq, 0), 6}, {"0f 85 f9 ff ff ff c3", asm.Ins{}, 0}, {"0f 8c 00 00 00 00 c3", jcc(api.Lt, 6), 6}, {"0f 8d 01 00 00 00 c3", jcc(api.Ge, 7), 6}, {"0f 8e 02 00 00 00 c3", asm.Ins{}, 0}, {"0f 8f fd ff ff ff c3", jcc(api.Gt, 3), 6},
	} {
		decodes(t, c.text, image(c.text), 0, c.want, c.size)
		decodes(t, c.text+", without functions", starting(image(c.text)), 0, c.want, c.size)
	}
	m := image("c3 48 99 e9 fa ff ff ff")
	decodes(t, "back", m, 3, jmp(2), 5)
}

// TestFarLabels: chapter 20 has no label above 10000000.
func TestFarLabels(t *testing.T) {
	m := enc.Image{Code: slices.Repeat([]byte{0xC3}, 10000020), Starts: []int{0}}
	copy(m.Code[10:], append([]byte{0xE9}, number(10000000-15, 4)...))
	decodesFar := func(want asm.Ins, size int) {
		t.Helper()
		if i, n, e := enc.Decode(m, 10); i != want || n != size || (e == api.OK) != (size > 0) {
			t.Errorf("P22.2: a far label: %+v, %d, %d", i, n, e)
		}
	}
	decodesFar(jmp(10000000), 5)
	m.Code[11]++
	decodesFar(asm.Ins{}, 0)
}

// TestCalls has calls of where functions start, and elsewhere; functions start in any order, at one place, and out of the code.
func TestCalls(t *testing.T) {
	m := image("c3 e8 02 00 00 00 48 99 c3")
	for _, c := range []struct {
		starts []int
		want   asm.Ins
	}{
		{[]int{8}, call(0)}, {[]int{0, 8}, call(1)}, {[]int{0, 3, 8, 20}, call(2)}, {[]int{20, 8, 3, 0}, call(1)}, {[]int{3, 8, 8, 8}, call(1)}, {[]int{-4, lowest, highest, 8}, call(3)}, {[]int{7}, asm.Ins{}}, {[]int{9}, asm.Ins{}}, {[]int{0, 1, 6}, asm.Ins{}}, {nil, asm.Ins{}},
	} {
		size := 0
		if c.want.Op > 0 {
			size = 5
		}
		decodes(t, fmt.Sprint("starts ", c.starts), starting(m, c.starts...), 1, c.want, size)
	}
	for _, goal := range []int{-7, 0, 1, 9, 10, 1000, -1 << 30, 1 << 30} {
		far := image("c3 e8 00 00 00 00 48 99 c3")
		copy(far.Code[2:], number(int64(goal-6), 4))
		decodes(t, fmt.Sprint("a call of ", goal), starting(far, 3, goal), 1, call(1), 5)
		decodes(t, fmt.Sprint("a call of ", goal), starting(far, 3, goal+1, goal-1), 1, asm.Ins{}, 0)
	}
}

// TestGlobals has places at the edges of globals: of sizes that an image of Encode has, and of any.
func TestGlobals(t *testing.T) {
	pointing := func(place int) enc.Image {
		m := image("c3 48 8d 1d 00 00 00 00")
		copy(m.Code[4:], number(int64(place-8), 4))
		return m
	}
	const first = 0x1000000
	for _, c := range []struct {
		sizes  []int
		place  int
		global int // -1: none
		k      int64
	}{
		{[]int{20, 8}, first, 0, 0}, {[]int{20, 8}, first - 1, -1, 0}, {[]int{20, 8}, first + 20, 0, 20}, {[]int{20, 8}, first + 21, -1, 0}, {[]int{20, 8}, first + 47, -1, 0}, {[]int{20, 8}, first + 48, 1, 0}, {[]int{20, 8}, first + 56, 1, 8}, {[]int{20, 8}, first + 57, -1, 0}, {nil, first, -1, 0}, {[]int{0}, first, 0, 0}, {[]int{0}, first + 1, -1, 0}, {[]int{0, 0}, first + 16, 1, 0}, {[]int{16, 0}, first + 31, -1, 0}, {[]int{16, 0}, first + 32, 1, 0}, {[]int{17, 0}, first + 48, 1, 0}, {[]int{17, 0}, first + 32, -1, 0},
		{[]int{-1}, first, -1, 0}, {[]int{-1, 5}, first + 16, 1, 0}, {[]int{-1, 5}, first + 15, -1, 0}, {[]int{-16, 5}, first, 1, 0}, {[]int{-16, 5}, first + 5, 1, 5}, {[]int{20, -48, 9}, first + 16, 0, 16}, {[]int{20, -48, 9}, first + 25, 2, 9}, {[]int{20, -48, 90}, first + 19, 0, 19}, {[]int{20, -64, 90}, first + 21, 2, 21}, {[]int{-32, 40}, first - 16, 1, 0}, {[]int{-32, 40}, first + 24, 1, 40}, {[]int{-32, 40}, first - 17, -1, 0}, {[]int{-first - 16, 9}, 0, 1, 0}, {[]int{-first - 32, 9}, -7, 1, 9}, {[]int{-first - 32, 9}, -17, -1, 0},
		{[]int{highest}, first, 0, 0}, {[]int{highest}, first + 1<<30, 0, 1 << 30}, {[]int{highest, highest, 40}, first + 1<<30, 0, 1 << 30}, {[]int{0, highest, highest, 8, 8}, first + 48, 1, 32}, {[]int{lowest, 8}, first, -1, 0}, {[]int{lowest, lowest, 8}, first + 32, -1, 0}, {[]int{lowest, lowest, highest, highest, 70, 8}, first, 3, highest - 47}, {[]int{lowest, lowest, highest, 70, 8}, first, -1, 0}, {[]int{lowest, lowest, highest, highest, 70, 8}, first + 64, 4, 0}, {[]int{lowest, highest}, -5, 1, highest - first - 20}, {[]int{lowest, highest}, first + 14, 1, highest - 1}, {[]int{lowest, highest}, first + 15, 1, highest}, {[]int{lowest, highest}, first + 16, -1, 0}, {[]int{lowest, -first, highest}, -1 << 30, 2, highest - 1<<30 - 31}, {[]int{-65536, 65536, 8}, first, 1, 65520},
	} {
		want, size := asm.Ins{}, 0
		if c.global >= 0 {
			want, size = leaG(3, c.global, c.k), 7
		}
		decodes(t, fmt.Sprintf("%x of %v", c.place, c.sizes), having(pointing(c.place), c.sizes...), 1, want, size)
	}
}

// TestGlobalsByChance has any sizes, and places around where globals stand.
func TestGlobalsByChance(t *testing.T) {
	s := newSecond()
	some := []int{0, 1, 8, 15, 16, 17, 40, 1000, 65536, -1, -16, -17, -32, -40, -1000, 1 << 62, -1 << 62, highest, lowest, -0x1000000}
	read := 0
	for seed := range int64(3000) {
		r := rand.New(rand.NewSource(seed))
		m := image("48 8d 1d 00 00 00 00")
		m.Globals = nil
		for range r.Intn(12) {
			m.Globals = append(m.Globals, some[r.Intn([]int{9, 15, 20}[seed%3])])
		}
		for _, place := range places(m.Globals) {
			for range 6 {
				copy(m.Code[3:], number(place.Int64()-7+int64(r.Intn(80)-20), 4))
				if _, ok := s.reads(t, m, 0); ok {
					read++
				}
			}
		}
	}
	if read < 20000 {
		t.Errorf("P22.2: just %d are read", read)
	}
}
