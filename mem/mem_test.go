package mem

import (
	"math"
	"math/rand"
	"testing"

	"plumbob/api"
	"plumbob/val"
)

var unknown = api.Val{}

// wrong are values that may not be.
var wrong = []api.Val{
	{N: 1}, {Block: 1}, {Kind: api.Int, Block: 1}, {Kind: api.Int, N: 5, Block: -1},
	{Kind: api.Ptr}, {Kind: api.Ptr, N: 8}, {Kind: api.Ptr, Block: -1},
	{Kind: 3, Block: 1}, {Kind: -1, Block: 1}, {Kind: math.MaxInt, N: 1}, {Kind: math.MinInt},
}

// numbers are Ints at which bytes and signs turn.
var numbers = []int64{
	0, 1, 5, 127, 128, 200, 255, 256, -1, -2, -128, -129, 1<<31 - 1, 1 << 31, 1<<32 - 1, 1 << 32, -1 << 31, -1<<31 - 1,
	0x0102030405060708, -0x0102030405060708, math.MaxInt64, math.MinInt64,
}

func made(t *testing.T, m *Mem, size int) int {
	t.Helper()
	before := m.Blocks()
	b, e := m.Alloc(size)
	if b != before+1 || e != api.OK || m.Blocks() != before+1 {
		t.Fatalf("P2.1: Alloc(%d) behind %d blocks: %d, %d", size, before, b, e)
	}
	return b
}

func loads(t *testing.T, m *Mem, chunk int, p, want api.Val) {
	t.Helper()
	if v, ok := m.Load(chunk, p); v != want || !ok {
		t.Errorf("P2.3: Load(%d, %s): %v, %v; want %v, true", chunk, val.Text(p), v, ok, want)
	}
}

func stores(t *testing.T, m *Mem, chunk int, p, v api.Val) {
	t.Helper()
	if !m.Store(chunk, p, v) {
		t.Errorf("P2.3: Store(%d, %s, %v): false", chunk, val.Text(p), v)
	}
}

// refused asks that an access is refused, and that nothing is changed by it.
func refused(t *testing.T, m *Mem, chunk int, p api.Val) {
	t.Helper()
	before := m.Copy()
	if v, ok := m.Load(chunk, p); v != unknown || ok {
		t.Errorf("P2.2: Load(%d, %v): %v, %v; want undef, false", chunk, p, v, ok)
	}
	for _, v := range []api.Val{val.Of(77), unknown, val.At(1, 0)} {
		if m.Store(chunk, p, v) {
			t.Errorf("P2.2: Store(%d, %v, %v): true", chunk, p, v)
		}
	}
	if !m.Same(before) {
		t.Errorf("P2.2: a refused access of %d at %v changed the memory", chunk, p)
	}
}

func same(t *testing.T, a, b *Mem, want bool, why string) {
	t.Helper()
	if a.Same(b) != want || b.Same(a) != want {
		t.Errorf("P2.1: Same of %s: %v, %v; want %v", why, a.Same(b), b.Same(a), want)
	}
}

func TestExamples(t *testing.T) {
	m := New()
	if b := made(t, m, 16); b != 1 {
		t.Errorf("P2.1: the first block is %d", b)
	}
	loads(t, m, 8, val.At(1, 0), unknown)
	stores(t, m, 4, val.At(1, 4), val.Of(-2))
	loads(t, m, 4, val.At(1, 4), val.Of(-2))
	loads(t, m, 1, val.At(1, 4), val.Of(-2))
	loads(t, m, 8, val.At(1, 0), unknown)
	refused(t, m, 4, val.At(1, 2))
	if m.Store(4, val.At(1, 0), val.At(1, 0)) {
		t.Errorf("P2.3: Store of 4 bytes of a pointer")
	}
}

func TestNewIsEmpty(t *testing.T) {
	m := New()
	if m.Blocks() != 0 || m.Live() != 0 || !m.Same(New()) || !m.Copy().Same(m) {
		t.Errorf("P2.1: New: %d blocks, %d live", m.Blocks(), m.Live())
	}
}

func TestAllocSizes(t *testing.T) {
	m := New()
	for _, size := range []int{0, 1, 7, 8, 9, 511, 512, 513, api.MaxSize - 1, api.MaxSize} {
		b := made(t, m, size)
		if n, ok := m.Size(b); n != size || !ok {
			t.Errorf("P2.1: Size of %d bytes: %d, %v", size, n, ok)
		}
		for _, at := range []int{0, size / 2, size - 1} {
			if at >= 0 && size > 0 {
				loads(t, m, 1, val.At(b, int64(at)), unknown)
			}
		}
		refused(t, m, 1, val.At(b, int64(size)))
	}
	blocks, live := m.Blocks(), m.Live()
	for _, size := range []int{-1, -8, math.MinInt, api.MaxSize + 1, math.MaxInt} {
		if b, e := m.Alloc(size); b != 0 || e != api.EARG {
			t.Errorf("P2.1: Alloc(%d): %d, %d", size, b, e)
		}
	}
	if m.Blocks() != blocks || m.Live() != live {
		t.Errorf("P2.1: a refused Alloc made %d blocks of %d", m.Blocks(), blocks)
	}
}

func TestAllocLimit(t *testing.T) {
	m := New()
	for i := range 100000 {
		b := made(t, m, api.MaxSize)
		if i%2 == 0 && !m.Free(b) {
			t.Fatalf("P2.1: Free(%d)", b)
		}
		if i%2 == 1 && !m.Zero(b) {
			t.Fatalf("P2.1: Zero(%d)", b)
		}
	}
	if m.Blocks() != 100000 || m.Live() != 50000 {
		t.Errorf("P2.1: %d blocks, %d live", m.Blocks(), m.Live())
	}
	for _, size := range []int{0, 1, api.MaxSize} {
		if b, e := m.Alloc(size); b != 0 || e != api.ELIMIT {
			t.Errorf("P2.1: Alloc(%d) behind 100000: %d, %d", size, b, e)
		}
	}
	for _, size := range []int{-1, api.MaxSize + 1} {
		if b, e := m.Alloc(size); b != 0 || e != api.EARG {
			t.Errorf("P2.1: Alloc(%d) behind 100000 names EARG first: %d, %d", size, b, e)
		}
	}
	if !m.Free(100000) || m.Live() != 49999 {
		t.Errorf("P2.1: Free of the last block")
	}
	if b, e := m.Alloc(1); b != 0 || e != api.ELIMIT {
		t.Errorf("P2.1: a freed block makes room: %d, %d", b, e)
	}
	c := m.Copy()
	same(t, m, c, true, "100000 blocks")
	stores(t, c, 8, val.At(99998, api.MaxSize-8), val.Of(1))
	same(t, m, c, false, "100000 blocks, one byte apart")
}

func TestManyGreatBlocksStored(t *testing.T) {
	m := New()
	for range 20000 {
		b := made(t, m, api.MaxSize)
		stores(t, m, 1, val.At(b, api.MaxSize-1), val.Of(int64(b)))
	}
	loads(t, m, 1, val.At(129, api.MaxSize-1), val.Of(-127))
	loads(t, m, 1, val.At(20000, api.MaxSize-2), unknown)
}

func TestFree(t *testing.T) {
	m := New()
	for range 3 {
		made(t, m, 16)
		stores(t, m, 8, val.At(m.Blocks(), 0), val.Of(int64(m.Blocks())))
	}
	for _, b := range []int{0, -1, 4, math.MinInt, math.MaxInt} {
		n, ok := m.Size(b)
		if m.Free(b) || m.Zero(b) || n != 0 || ok {
			t.Errorf("P2.1: a block %d that is none: Size %d, %v", b, n, ok)
		}
	}
	if m.Live() != 3 || !m.Free(2) {
		t.Errorf("P2.1: Free(2)")
	}
	n, ok := m.Size(2)
	if m.Free(2) || m.Zero(2) || n != 0 || ok {
		t.Errorf("P2.1: a freed block is there: Size %d, %v", n, ok)
	}
	if m.Blocks() != 3 || m.Live() != 2 {
		t.Errorf("P2.1: %d blocks, %d live; want 3, 2", m.Blocks(), m.Live())
	}
	for _, chunk := range []int{1, 4, 8} {
		refused(t, m, chunk, val.At(2, 0))
	}
	loads(t, m, 8, val.At(1, 0), val.Of(1))
	loads(t, m, 8, val.At(3, 0), val.Of(3))
	if b := made(t, m, 16); b != 4 {
		t.Errorf("P2.1: the number 2 is given again: %d", b)
	}
	loads(t, m, 8, val.At(4, 0), unknown)
}

func TestZero(t *testing.T) {
	for _, size := range []int{0, 1, 5, 8, 13, 512, 700, api.MaxSize} {
		m := New()
		made(t, m, 16)
		b := made(t, m, size)
		made(t, m, 16)
		if size >= 8 {
			stores(t, m, 8, val.At(b, 0), val.At(3, 4))
		}
		if size >= 1 {
			stores(t, m, 1, val.At(b, int64(size-1)), val.Of(9))
		}
		if !m.Zero(b) {
			t.Fatalf("P2.1: Zero of %d bytes", size)
		}
		for at := range size {
			loads(t, m, 1, val.At(b, int64(at)), val.Of(0))
		}
		for at := 0; at+8 <= size; at += 8 {
			loads(t, m, 8, val.At(b, int64(at)), val.Of(0))
		}
		loads(t, m, 8, val.At(1, 8), unknown)
		loads(t, m, 8, val.At(3, 0), unknown)
		if n, ok := m.Size(b); n != size || !ok || m.Live() != 3 {
			t.Errorf("P2.1: Size behind Zero: %d, %v", n, ok)
		}
	}
}

func TestZeroThenStore(t *testing.T) {
	m := New()
	made(t, m, 600)
	m.Zero(1)
	stores(t, m, 4, val.At(1, 516), val.Of(-3))
	stores(t, m, 1, val.At(1, 3), unknown)
	loads(t, m, 8, val.At(1, 512), val.Of(-3<<32))
	loads(t, m, 8, val.At(1, 520), val.Of(0))
	loads(t, m, 8, val.At(1, 0), unknown)
	loads(t, m, 4, val.At(1, 4), val.Of(0))
	loads(t, m, 1, val.At(1, 2), val.Of(0))
}

func TestSameBytes(t *testing.T) {
	a, b := New(), New()
	made(t, a, 13)
	same(t, a, b, false, "one block and none")
	made(t, b, 13)
	same(t, a, b, true, "two unknown blocks")
	same(t, a, a, true, "a memory and itself")
	a.Zero(1)
	same(t, a, b, false, "bytes 0 and unknown")
	for at := range 13 {
		same(t, a, b, false, "bytes that are not all 0 yet")
		stores(t, b, 1, val.At(1, int64(at)), val.Of(0))
	}
	same(t, a, b, true, "Zero and stores of 0")
	stores(t, a, 1, val.At(1, 12), unknown)
	same(t, a, b, false, "an unknown last byte and 0")
	stores(t, b, 1, val.At(1, 12), unknown)
	same(t, a, b, true, "unknown last bytes")
}

func TestSamePointers(t *testing.T) {
	a, b := New(), New()
	made(t, a, 8)
	made(t, b, 8)
	stores(t, a, 8, val.At(1, 0), val.At(3, 4))
	same(t, a, b, false, "a pointer and unknown bytes")
	stores(t, b, 8, val.At(1, 0), val.Of(4))
	same(t, a, b, false, "a pointer and an Int")
	stores(t, b, 8, val.At(1, 0), val.At(3, 5))
	same(t, a, b, false, "pointers to two bytes")
	stores(t, b, 8, val.At(1, 0), val.At(4, 4))
	same(t, a, b, false, "pointers to two blocks")
	stores(t, b, 8, val.At(1, 0), val.At(3, 4))
	same(t, a, b, true, "a pointer twice")
	stores(t, a, 1, val.At(1, 7), val.Of(1))
	same(t, a, b, false, "a pointer with a byte changed")
	stores(t, b, 1, val.At(1, 7), val.Of(1))
	same(t, a, b, true, "two pointers with the same byte changed")
	stores(t, b, 4, val.At(1, 0), unknown)
	stores(t, b, 8, val.At(1, 0), val.At(9, 9))
	stores(t, b, 8, val.At(1, 0), val.Of(6))
	stores(t, a, 8, val.At(1, 0), val.Of(6))
	same(t, a, b, true, "Ints in place of unlike pointers")
}

func TestSameBlocks(t *testing.T) {
	a, b := New(), New()
	made(t, a, 4)
	made(t, b, 5)
	same(t, a, b, false, "unlike sizes")
	a, b = New(), New()
	for range 2 {
		made(t, a, 8)
		made(t, b, 8)
	}
	a.Free(1)
	same(t, a, b, false, "a freed block and one that is not")
	b.Free(2)
	same(t, a, b, false, "unlike freed blocks")
	a.Free(2)
	b.Free(1)
	same(t, a, b, true, "freed blocks")
	made(t, a, 0)
	same(t, a, b, false, "three blocks and two")
	made(t, b, 0)
	same(t, a, b, true, "blocks of no byte")
	a.Zero(3)
	same(t, a, b, true, "blocks of no byte, one of them 0 in all its bytes")
}

func TestSameAsksNoFreedBytes(t *testing.T) {
	a, b := New(), New()
	for _, m := range []*Mem{a, b} {
		made(t, m, 24)
		made(t, m, 24)
	}
	stores(t, a, 8, val.At(1, 0), val.Of(1))
	stores(t, b, 8, val.At(1, 8), val.At(1, 1))
	a.Zero(2)
	a.Free(1)
	b.Free(1)
	same(t, a, b, false, "freed bytes and live ones")
	a.Free(2)
	b.Free(2)
	same(t, a, b, true, "freed bytes alone")
	c, d := New(), New()
	made(t, c, 4)
	made(t, d, 8)
	c.Free(1)
	d.Free(1)
	same(t, c, d, false, "freed blocks of unlike sizes")
}

func TestCopyIsApart(t *testing.T) {
	m := New()
	made(t, m, 1024)
	made(t, m, 8)
	made(t, m, 8)
	stores(t, m, 8, val.At(1, 0), val.Of(7))
	stores(t, m, 8, val.At(1, 1016), val.At(2, 3))
	m.Free(3)
	c := m.Copy()
	same(t, m, c, true, "a copy")
	if c.Blocks() != 3 || c.Live() != 2 {
		t.Errorf("P2.1: Copy: %d blocks, %d live", c.Blocks(), c.Live())
	}
	stores(t, c, 8, val.At(1, 0), val.Of(8))
	stores(t, c, 1, val.At(1, 8), val.Of(8))
	stores(t, c, 8, val.At(1, 512), val.Of(8))
	stores(t, c, 8, val.At(2, 0), val.Of(8))
	c.Zero(2)
	made(t, c, 4)
	same(t, m, c, false, "a copy that is changed")
	loads(t, m, 8, val.At(1, 0), val.Of(7))
	loads(t, m, 1, val.At(1, 8), unknown)
	loads(t, m, 8, val.At(1, 512), unknown)
	loads(t, m, 8, val.At(1, 1016), val.At(2, 3))
	loads(t, m, 8, val.At(2, 0), unknown)
	stores(t, m, 8, val.At(1, 0), val.Of(9))
	m.Free(1)
	loads(t, c, 8, val.At(1, 0), val.Of(8))
	loads(t, c, 8, val.At(1, 1016), val.At(2, 3))
	if b := made(t, m, 16); b != 4 || m.Live() != 2 || c.Live() != 3 {
		t.Errorf("P2.1: behind Copy: block %d, %d live, %d live", b, m.Live(), c.Live())
	}
	if n, ok := c.Size(4); n != 4 || !ok {
		t.Errorf("P2.1: a copy's block is the other one's: %d, %v", n, ok)
	}
}

func TestAccessPlaces(t *testing.T) {
	for _, size := range []int{0, 1, 3, 4, 5, 7, 8, 9, 12, 15, 16, 17} {
		m := New()
		made(t, m, size)
		for _, chunk := range []int{1, 4, 8} {
			for at := -9; at < size+9; at++ {
				if at < 0 || at+chunk > size || at%chunk != 0 {
					refused(t, m, chunk, val.At(1, int64(at)))
					continue
				}
				stores(t, m, chunk, val.At(1, int64(at)), val.Of(int64(at)))
				loads(t, m, chunk, val.At(1, int64(at)), val.Of(int64(at)))
			}
		}
	}
}

func TestAccessFarAway(t *testing.T) {
	m := New()
	made(t, m, api.MaxSize)
	for _, at := range []int64{math.MinInt64, math.MinInt64 + 8, -1 << 32, 1 << 32, math.MaxInt64, math.MaxInt64 - 7, api.MaxSize} {
		for _, chunk := range []int{1, 4, 8} {
			refused(t, m, chunk, val.At(1, at))
		}
	}
	for _, chunk := range []int{1, 4, 8} {
		last := val.At(1, int64(api.MaxSize-chunk))
		stores(t, m, chunk, last, val.Of(5))
		loads(t, m, chunk, last, val.Of(5))
	}
}

func TestAccessChunks(t *testing.T) {
	m := New()
	made(t, m, 64)
	for _, chunk := range []int{math.MinInt, -8, -4, -1, 0, 2, 3, 5, 6, 7, 9, 16, 32, 64, math.MaxInt} {
		refused(t, m, chunk, val.At(1, 0))
	}
}

func TestAccessAtNoPointer(t *testing.T) {
	m := New()
	made(t, m, 64)
	places := append([]api.Val{
		unknown, val.Of(0), val.Of(1), val.At(2, 0), val.At(math.MaxInt, 0), {Kind: api.Ptr, Block: math.MinInt},
	}, wrong...)
	for _, p := range places {
		for _, chunk := range []int{1, 4, 8} {
			refused(t, m, chunk, p)
		}
	}
}

// signed takes chunk bytes of a number, with their sign, by division alone.
func signed(n int64, chunk int) int64 {
	if chunk == 8 {
		return n
	}
	span := int64(1) << (8 * chunk)
	n = (n%span + span) % span
	if n >= span/2 {
		n -= span
	}
	return n
}

func TestIntsAreLoaded(t *testing.T) {
	for _, chunk := range []int{1, 4, 8} {
		for at := int64(0); at < 16; at += int64(chunk) {
			for _, n := range numbers {
				m := New()
				made(t, m, 16)
				stores(t, m, chunk, val.At(1, at), val.Of(n))
				loads(t, m, chunk, val.At(1, at), val.Of(signed(n, chunk)))
			}
		}
	}
}

func TestIntsHaveTheLowestByteFirst(t *testing.T) {
	m := New()
	made(t, m, 8)
	stores(t, m, 8, val.At(1, 0), val.Of(0x0102030405060788))
	for i, want := range []int64{-0x78, 7, 6, 5, 4, 3, 2, 1} {
		loads(t, m, 1, val.At(1, int64(i)), val.Of(want))
	}
	loads(t, m, 4, val.At(1, 0), val.Of(0x05060788))
	loads(t, m, 4, val.At(1, 4), val.Of(0x01020304))
	stores(t, m, 1, val.At(1, 3), val.Of(0xf1ff))
	loads(t, m, 8, val.At(1, 0), val.Of(0x01020304ff060788))
	loads(t, m, 4, val.At(1, 0), val.Of(0xff060788-1<<32))
}

func TestUnknownBytes(t *testing.T) {
	for hole := range int64(8) {
		m := New()
		made(t, m, 8)
		stores(t, m, 8, val.At(1, 0), val.Of(-1))
		stores(t, m, 1, val.At(1, hole), unknown)
		loads(t, m, 8, val.At(1, 0), unknown)
		for at := range int64(8) {
			want := val.Of(-1)
			if at == hole {
				want = unknown
			}
			loads(t, m, 1, val.At(1, at), want)
		}
		whole := 4 - hole/4*4
		loads(t, m, 4, val.At(1, whole), val.Of(-1))
		loads(t, m, 4, val.At(1, 4-whole), unknown)
		stores(t, m, 1, val.At(1, hole), val.Of(0))
		loads(t, m, 8, val.At(1, 0), val.Of(^(int64(255) << (8 * hole))))
	}
}

func TestPointersAreLoaded(t *testing.T) {
	pointers := []api.Val{
		val.At(1, 0), val.At(7, 9), val.At(1, -1), val.At(math.MaxInt, math.MinInt64), val.At(2, math.MaxInt64),
	}
	for _, p := range pointers {
		m := New()
		made(t, m, 24)
		stores(t, m, 8, val.At(1, 8), p)
		loads(t, m, 8, val.At(1, 8), p)
		loads(t, m, 8, val.At(1, 0), unknown)
		loads(t, m, 8, val.At(1, 16), unknown)
		for at := range int64(8) {
			loads(t, m, 1, val.At(1, 8+at), unknown)
		}
		loads(t, m, 4, val.At(1, 8), unknown)
		loads(t, m, 4, val.At(1, 12), unknown)
		for _, chunk := range []int{1, 4} {
			before := m.Copy()
			if m.Store(chunk, val.At(1, 8), p) || m.Store(chunk, val.At(1, 0), p) || !m.Same(before) {
				t.Errorf("P2.3: Store of %d bytes of a pointer", chunk)
			}
		}
	}
}

func TestPointersInPart(t *testing.T) {
	for at := range int64(8) {
		for _, v := range []api.Val{val.Of(0), val.Of(9), unknown} {
			m := New()
			made(t, m, 8)
			stores(t, m, 8, val.At(1, 0), val.At(5, 6))
			stores(t, m, 1, val.At(1, at), v)
			loads(t, m, 8, val.At(1, 0), unknown)
			loads(t, m, 1, val.At(1, at), v)
			loads(t, m, 1, val.At(1, (at+1)%8), unknown)
			stores(t, m, 8, val.At(1, 0), val.At(5, 7))
			loads(t, m, 8, val.At(1, 0), val.At(5, 7))
		}
	}
	m := New()
	made(t, m, 8)
	stores(t, m, 8, val.At(1, 0), val.At(5, 6))
	stores(t, m, 4, val.At(1, 0), val.Of(3))
	loads(t, m, 4, val.At(1, 0), val.Of(3))
	stores(t, m, 4, val.At(1, 4), val.Of(0))
	loads(t, m, 8, val.At(1, 0), val.Of(3))
}

func TestWrongValuesAreUnknown(t *testing.T) {
	for _, v := range wrong {
		for _, chunk := range []int{1, 4, 8} {
			m := New()
			made(t, m, 8)
			m.Zero(1)
			stores(t, m, chunk, val.At(1, 0), v)
			loads(t, m, chunk, val.At(1, 0), unknown)
			if chunk == 4 {
				loads(t, m, 4, val.At(1, 4), val.Of(0))
			}
		}
	}
}

// cell is a byte as the chapter tells it: unknown, a number, or a part of a pointer.
type cell struct {
	kind int
	n    byte
	part int
	ptr  api.Val
}

// plain is a memory kept byte by byte, to hold the packed one against.
type plain struct {
	cells [][]cell
	freed []bool
}

func (p *plain) right(chunk int, at api.Val) []cell {
	if at.Kind != api.Ptr || at.Block < 1 || at.Block > len(p.cells) || p.freed[at.Block-1] {
		return nil
	}
	bytes := p.cells[at.Block-1]
	for i := 0; i+chunk <= len(bytes); i += chunk {
		if int64(i) == at.N {
			return bytes[i : i+chunk]
		}
	}
	return nil
}

func (p *plain) load(chunk int, at api.Val) (api.Val, bool) {
	bytes := p.right(chunk, at)
	if bytes == nil {
		return unknown, false
	}
	numbers, parts, n := 0, 0, int64(0)
	for i := len(bytes) - 1; i >= 0; i-- {
		switch c := bytes[i]; {
		case c.kind == 1:
			numbers++
			n = n<<8 | int64(c.n)
		case c.kind == 2 && c.part == i && c.ptr == bytes[0].ptr:
			parts++
		}
	}
	switch {
	case numbers == chunk:
		return val.Of(signed(n, chunk)), true
	case parts == 8:
		return bytes[0].ptr, true
	}
	return unknown, true
}

func (p *plain) store(chunk int, at, v api.Val) bool {
	bytes := p.right(chunk, at)
	if bytes == nil || v.Kind == api.Ptr && chunk != 8 {
		return false
	}
	for i := range bytes {
		switch v.Kind {
		case api.Int:
			bytes[i] = cell{kind: 1, n: byte(v.N >> (8 * i))}
		case api.Ptr:
			bytes[i] = cell{kind: 2, part: i, ptr: v}
		default:
			bytes[i] = cell{}
		}
	}
	return true
}

func (p *plain) zero(b int) bool {
	if b < 1 || b > len(p.cells) || p.freed[b-1] {
		return false
	}
	for i := range p.cells[b-1] {
		p.cells[b-1][i] = cell{kind: 1}
	}
	return true
}

func (p *plain) free(b int) bool {
	if b < 1 || b > len(p.cells) || p.freed[b-1] {
		return false
	}
	p.freed[b-1] = true
	return true
}

func (p *plain) same(o *plain) bool {
	if len(p.cells) != len(o.cells) {
		return false
	}
	for b := range p.cells {
		if p.freed[b] != o.freed[b] || len(p.cells[b]) != len(o.cells[b]) {
			return false
		}
		for i := range p.cells[b] {
			if !p.freed[b] && p.cells[b][i] != o.cells[b][i] {
				return false
			}
		}
	}
	return true
}

func (p *plain) copied() *plain {
	c := &plain{freed: append([]bool(nil), p.freed...)}
	for _, bytes := range p.cells {
		c.cells = append(c.cells, append([]cell(nil), bytes...))
	}
	return c
}

func anyValue(r *rand.Rand) api.Val {
	switch r.Intn(4) {
	case 0:
		return unknown
	case 1:
		return val.At(1+r.Intn(2), int64(r.Intn(2)))
	}
	if r.Intn(2) == 0 {
		return val.Of(0)
	}
	return val.Of(int64(r.Uint64()))
}

// step does one thing to both memories, and asks whether they answer the same.
func step(t *testing.T, r *rand.Rand, m *Mem, p *plain) {
	t.Helper()
	chunk := []int{1, 4, 8}[r.Intn(3)]
	block := r.Intn(len(p.cells) + 2)
	at := val.At(block, int64(r.Intn(30)-2))
	if r.Intn(2) == 0 {
		at = val.At(block, int64(r.Intn(4)*8))
	}
	switch r.Intn(40) {
	case 0:
		if m.Free(block) != p.free(block) {
			t.Fatalf("P2.1: Free(%d)", block)
		}
	case 1:
		if m.Zero(block) != p.zero(block) {
			t.Fatalf("P2.1: Zero(%d)", block)
		}
	case 2:
		size := r.Intn(27)
		p.cells = append(p.cells, make([]cell, size))
		p.freed = append(p.freed, false)
		made(t, m, size)
	default:
		v := anyValue(r)
		if m.Store(chunk, at, v) != p.store(chunk, at, v) {
			t.Fatalf("P2.3: Store(%d, %v, %v)", chunk, at, v)
		}
	}
}

func TestAgainstBytes(t *testing.T) {
	for seed := range int64(60) {
		r := rand.New(rand.NewSource(seed))
		m, p := New(), &plain{}
		old, was := m.Copy(), p.copied()
		for range 120 {
			step(t, r, m, p)
			for b := range len(p.cells) + 2 {
				for at := int64(-1); at < 28; at++ {
					for _, chunk := range []int{1, 4, 8} {
						v, ok := m.Load(chunk, val.At(b, at))
						if w, is := p.load(chunk, val.At(b, at)); v != w || ok != is {
							t.Fatalf("P2.4: seed %d: Load(%d, &%d+%d): %v, %v; want %v, %v", seed, chunk, b, at, v, ok, w, is)
						}
					}
				}
			}
			same(t, m, old, p.same(was), "a memory and an older one")
			if r.Intn(3) == 0 {
				old, was = m.Copy(), p.copied()
			}
		}
	}
}

func TestBlocksAreApart(t *testing.T) {
	m := New()
	for range 3 {
		made(t, m, 8)
		stores(t, m, 8, val.At(m.Blocks(), 0), val.Of(int64(m.Blocks())))
	}
	for _, v := range []api.Val{val.Of(-1), val.At(1, 0), unknown} {
		stores(t, m, 8, val.At(2, 0), v)
		loads(t, m, 8, val.At(2, 0), v)
		for _, b := range []int{1, 3} {
			if got, ok := m.Load(8, val.At(b, 0)); got != val.Of(int64(b)) || !ok {
				t.Errorf("P2.4: a store in block 2 changed block %d: %v, %v", b, got, ok)
			}
		}
	}
	before := m.Copy()
	m.Load(8, val.At(1, 0))
	m.Load(4, val.At(2, 2))
	same(t, m, before, true, "a memory ahead of loads and behind them")
}
