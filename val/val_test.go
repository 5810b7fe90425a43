package val

import (
	"math"
	"math/big"
	"testing"

	"plumbob/api"
)

var none = api.Val{}

// edges are numbers about which the promises change their mind.
var edges = []int64{
	math.MinInt64, math.MinInt64 + 1, -1 << 32, -1<<31 - 1, -1 << 31, -129, -128, -64, -7, -2, -1,
	0, 1, 2, 4, 7, 62, 63, 64, 65, 127, 128, 200, 255, 256, 1<<31 - 1, 1 << 31, 1<<32 - 1, 1 << 32,
	1 << 62, math.MaxInt64 - 1, math.MaxInt64,
}

// wrong are values that may not be.
var wrong = []api.Val{
	{N: 1}, {Block: 1}, {N: -3, Block: 2},
	{Kind: api.Int, Block: 1}, {Kind: api.Int, N: 5, Block: -1},
	{Kind: api.Ptr}, {Kind: api.Ptr, N: 8}, {Kind: api.Ptr, Block: -1},
	{Kind: 3}, {Kind: -1}, {Kind: 3, N: 1, Block: 1}, {Kind: math.MaxInt, N: 1}, {Kind: math.MinInt},
}

func integer(n int64) api.Val { return api.Val{Kind: api.Int, N: n} }

func pointer(block int, n int64) api.Val { return api.Val{Kind: api.Ptr, N: n, Block: block} }

// wrap takes a number of any size modulo 2^64, with the sign.
func wrap(n *big.Int) int64 {
	low := new(big.Int).And(n, new(big.Int).SetUint64(math.MaxUint64))
	return int64(low.Uint64())
}

// extend takes the lowest bits of a number, with their sign.
func extend(n int64, bits uint) int64 {
	low := new(big.Int).And(big.NewInt(n), big.NewInt(1<<bits-1)).Int64()
	if low >= 1<<(bits-1) {
		low -= 1 << bits
	}
	return low
}

func truth(b bool) *big.Int {
	if b {
		return big.NewInt(1)
	}
	return big.NewInt(0)
}

// reckon says by numbers of any size what Bin of two Ints comes to; nil: nothing.
func reckon(op int, a, b *big.Int) *big.Int {
	r := new(big.Int)
	order := a.Cmp(b)
	switch op {
	case api.Add:
		return r.Add(a, b)
	case api.Sub:
		return r.Sub(a, b)
	case api.Mul:
		return r.Mul(a, b)
	case api.Div, api.Mod:
		if b.Sign() == 0 || !new(big.Int).Quo(a, b).IsInt64() {
			return nil
		}
		if op == api.Div {
			return r.Quo(a, b)
		}
		return r.Rem(a, b)
	case api.And:
		return r.And(a, b)
	case api.Or:
		return r.Or(a, b)
	case api.Xor:
		return r.Xor(a, b)
	case api.Shl, api.Shr:
		if b.Sign() < 0 || b.Cmp(big.NewInt(63)) > 0 {
			return nil
		}
		if op == api.Shl {
			return r.Lsh(a, uint(b.Int64()))
		}
		return r.Rsh(a, uint(b.Int64()))
	case api.Eq:
		return truth(order == 0)
	case api.Ne:
		return truth(order != 0)
	case api.Lt:
		return truth(order < 0)
	case api.Le:
		return truth(order <= 0)
	case api.Gt:
		return truth(order > 0)
	case api.Ge:
		return truth(order >= 0)
	}
	return nil
}

// someOps are all ops, and numbers around them that are none.
func someOps() []int {
	list := []int{math.MinInt, math.MaxInt}
	for op := -30; op <= 60; op++ {
		list = append(list, op)
	}
	return list
}

func wantUn(t *testing.T, op int, a, want api.Val, wantOK bool) {
	t.Helper()
	if got, ok := Un(op, a); got != want || ok != wantOK {
		t.Errorf("P1.1: Un(%d, %v) is %v, %v; want %v, %v", op, a, got, ok, want, wantOK)
	}
}

func wantBin(t *testing.T, op int, a, b, want api.Val, wantOK bool) {
	t.Helper()
	if got, ok := Bin(op, a, b); got != want || ok != wantOK {
		t.Errorf("P1.2: Bin(%d, %v, %v) is %v, %v; want %v, %v", op, a, b, got, ok, want, wantOK)
	}
}

func TestUnOfInts(t *testing.T) {
	for _, n := range edges {
		wantUn(t, api.Neg, integer(n), integer(wrap(new(big.Int).Neg(big.NewInt(n)))), true)
		wantUn(t, api.Not, integer(n), integer(wrap(new(big.Int).Not(big.NewInt(n)))), true)
		wantUn(t, api.Ext8, integer(n), integer(extend(n, 8)), true)
		wantUn(t, api.Ext32, integer(n), integer(extend(n, 32)), true)
	}
	wantUn(t, api.Neg, integer(math.MinInt64), integer(math.MinInt64), true)
	wantUn(t, api.Ext8, integer(200), integer(-56), true)
	wantUn(t, api.Ext32, integer(1<<31), integer(-1<<31), true)
}

func TestUnOfAllElse(t *testing.T) {
	for _, op := range someOps() {
		for _, a := range append([]api.Val{none, pointer(1, 0), pointer(3, 8)}, wrong...) {
			wantUn(t, op, a, none, false)
		}
		if op < api.Neg || op > api.Ext32 {
			wantUn(t, op, integer(5), none, false)
		}
	}
}

func TestBinOfInts(t *testing.T) {
	for _, op := range someOps() {
		for _, a := range edges {
			for _, b := range edges {
				r := reckon(op, big.NewInt(a), big.NewInt(b))
				if r == nil {
					wantBin(t, op, integer(a), integer(b), none, false)
				} else {
					wantBin(t, op, integer(a), integer(b), integer(wrap(r)), true)
				}
			}
		}
	}
}

func TestBinOfIntsAtTheEdges(t *testing.T) {
	for _, c := range []struct {
		op         int
		a, b, want int64
	}{
		{api.Div, -7, 2, -3}, {api.Mod, -7, 2, -1}, {api.Div, 7, -2, -3}, {api.Mod, 7, -2, 1},
		{api.Div, math.MinInt64, 1, math.MinInt64}, {api.Div, -math.MaxInt64, -1, math.MaxInt64},
		{api.Mod, math.MinInt64, 2, 0}, {api.Mod, math.MinInt64 + 1, -1, 0},
		{api.Add, math.MaxInt64, 1, math.MinInt64}, {api.Sub, math.MinInt64, 1, math.MaxInt64},
		{api.Mul, math.MinInt64, -1, math.MinInt64}, {api.Mul, 1 << 62, 4, 0},
		{api.Shl, 1, 0, 1}, {api.Shl, 1, 63, math.MinInt64}, {api.Shl, 3, 63, math.MinInt64},
		{api.Shr, -8, 1, -4}, {api.Shr, math.MinInt64, 63, -1}, {api.Shr, math.MaxInt64, 63, 0},
		{api.Lt, math.MinInt64, math.MaxInt64, 1}, {api.Gt, math.MinInt64, math.MaxInt64, 0},
	} {
		wantBin(t, c.op, integer(c.a), integer(c.b), integer(c.want), true)
	}
	for _, op := range []int{api.Div, api.Mod} {
		wantBin(t, op, integer(1), integer(0), none, false)
		wantBin(t, op, integer(math.MinInt64), integer(0), none, false)
		wantBin(t, op, integer(math.MinInt64), integer(-1), none, false)
	}
	for _, op := range []int{api.Shl, api.Shr} {
		for _, by := range []int64{-1, 64, math.MinInt64, math.MaxInt64, 1 << 32} {
			wantBin(t, op, integer(1), integer(by), none, false)
			wantBin(t, op, integer(0), integer(by), none, false)
		}
	}
}

func TestBinOfPointersAndInts(t *testing.T) {
	for _, op := range someOps() {
		for _, at := range edges {
			for _, n := range edges {
				p, i := pointer(3, at), integer(n)
				sum := wrap(new(big.Int).Add(big.NewInt(at), big.NewInt(n)))
				difference := wrap(new(big.Int).Sub(big.NewInt(at), big.NewInt(n)))
				switch {
				case op == api.Add:
					wantBin(t, op, p, i, pointer(3, sum), true)
					wantBin(t, op, i, p, pointer(3, sum), true)
				case op == api.Sub:
					wantBin(t, op, p, i, pointer(3, difference), true)
					wantBin(t, op, i, p, none, false)
				case (op == api.Eq || op == api.Ne) && n == 0:
					wantBin(t, op, p, i, integer(int64(op-api.Eq)), true)
					wantBin(t, op, i, p, integer(int64(op-api.Eq)), true)
				default:
					wantBin(t, op, p, i, none, false)
					wantBin(t, op, i, p, none, false)
				}
			}
		}
	}
	wantBin(t, api.Sub, pointer(3, 8), integer(4), pointer(3, 4), true)
	wantBin(t, api.Eq, pointer(3, 8), integer(0), integer(0), true)
	wantBin(t, api.Add, pointer(math.MaxInt, math.MaxInt64), integer(1), pointer(math.MaxInt, math.MinInt64), true)
}

func TestBinOfPointers(t *testing.T) {
	list := []api.Val{pointer(1, 0), pointer(1, 8), pointer(2, 0), pointer(3, -8), pointer(math.MaxInt, math.MinInt64)}
	for _, op := range someOps() {
		for i, p := range list {
			for j, q := range list {
				switch op {
				case api.Eq:
					wantBin(t, op, p, q, integer(truth(i == j).Int64()), true)
				case api.Ne:
					wantBin(t, op, p, q, integer(truth(i != j).Int64()), true)
				default:
					wantBin(t, op, p, q, none, false)
				}
			}
		}
	}
}

func TestBinOfWhatIsNone(t *testing.T) {
	for _, op := range someOps() {
		for _, bad := range append([]api.Val{none}, wrong...) {
			for _, other := range append([]api.Val{none, integer(0), integer(1), pointer(1, 0)}, wrong...) {
				wantBin(t, op, bad, other, none, false)
				wantBin(t, op, other, bad, none, false)
			}
		}
	}
}

func TestOfAndAt(t *testing.T) {
	for _, n := range edges {
		if got := Of(n); got != integer(n) {
			t.Errorf("P1.3: Of(%d) is %v", n, got)
		}
		for _, block := range []int{1, 2, 1 << 40, math.MaxInt} {
			if got := At(block, n); got != pointer(block, n) {
				t.Errorf("P1.3: At(%d, %d) is %v", block, n, got)
			}
		}
		for _, block := range []int{0, -1, math.MinInt} {
			if got := At(block, n); got != none {
				t.Errorf("P1.3: At(%d, %d) is %v", block, n, got)
			}
		}
	}
}

func TestTrueGoodAndText(t *testing.T) {
	type row struct {
		a                 api.Val
		good, truth, told bool
		text              string
	}
	rows := []row{
		{none, true, false, false, "undef"},
		{integer(0), true, false, true, "0"},
		{integer(1), true, true, true, "1"},
		{integer(-1), true, true, true, "-1"},
		{integer(1 << 32), true, true, true, "4294967296"},
		{integer(math.MinInt64), true, true, true, "-9223372036854775808"},
		{integer(math.MaxInt64), true, true, true, "9223372036854775807"},
		{pointer(1, 0), true, true, true, "&1+0"},
		{pointer(3, 8), true, true, true, "&3+8"},
		{pointer(3, -8), true, true, true, "&3+-8"},
		{pointer(math.MaxInt, math.MinInt64), true, true, true, "&9223372036854775807+-9223372036854775808"},
	}
	for _, a := range wrong {
		rows = append(rows, row{a, false, false, false, "undef"})
	}
	for _, r := range rows {
		if got := Good(r.a); got != r.good {
			t.Errorf("P1.3: Good(%v) is %v", r.a, got)
		}
		if truth, told := True(r.a); truth != r.truth || told != r.told {
			t.Errorf("P1.3: True(%v) is %v, %v", r.a, truth, told)
		}
		if got := Text(r.a); got != r.text {
			t.Errorf("P1.3: Text(%v) is %q, want %q", r.a, got, r.text)
		}
	}
}

func TestFlipAndSwapOfEachOp(t *testing.T) {
	flips := map[int]int{api.Eq: api.Ne, api.Ne: api.Eq, api.Lt: api.Ge, api.Le: api.Gt, api.Gt: api.Le, api.Ge: api.Lt}
	swaps := map[int]int{
		api.Add: api.Add, api.Mul: api.Mul, api.And: api.And, api.Or: api.Or, api.Xor: api.Xor,
		api.Eq: api.Eq, api.Ne: api.Ne, api.Lt: api.Gt, api.Le: api.Ge, api.Gt: api.Lt, api.Ge: api.Le,
	}
	for _, op := range someOps() {
		if got, ok := Flip(op); got != flips[op] || ok != (flips[op] != 0) {
			t.Errorf("P1.3: Flip(%d) is %d, %v", op, got, ok)
		}
		if got, ok := Swap(op); got != swaps[op] || ok != (swaps[op] != 0) {
			t.Errorf("P1.3: Swap(%d) is %d, %v", op, got, ok)
		}
	}
}

// TestFlipAndSwapAgreeWithBin holds the tables against what they are for.
func TestFlipAndSwapAgreeWithBin(t *testing.T) {
	for _, op := range someOps() {
		flipped, canFlip := Flip(op)
		swapped, canSwap := Swap(op)
		for _, n := range edges {
			for _, m := range edges {
				a, b := integer(n), integer(m)
				v, _ := Bin(op, a, b)
				if w, _ := Bin(flipped, a, b); canFlip && v.N+w.N != 1 {
					t.Errorf("P1.3: Flip(%d) does not say the opposite of %d and %d", op, n, m)
				}
				if w, _ := Bin(swapped, b, a); canSwap && v != w {
					t.Errorf("P1.3: Swap(%d) does not say the same of %d and %d", op, m, n)
				}
			}
		}
	}
}
