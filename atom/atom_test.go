package atom

import (
	"math"
	"math/big"
	"testing"

	"marionette/api"
)

// narrowOps and wideOps are all atomic operators of 32 and of 64 bits, in one order.
var (
	narrowOps = []int{
		api.OpLrW, api.OpScW, api.OpAmoswapW, api.OpAmoaddW, api.OpAmoxorW, api.OpAmoandW, api.OpAmoorW,
		api.OpAmominW, api.OpAmomaxW, api.OpAmominuW, api.OpAmomaxuW,
	}
	wideOps = []int{
		api.OpLrD, api.OpScD, api.OpAmoswapD, api.OpAmoaddD, api.OpAmoxorD, api.OpAmoandD, api.OpAmoorD,
		api.OpAmominD, api.OpAmomaxD, api.OpAmominuD, api.OpAmomaxuD,
	}
)

// rule is what the document asks of an operator: of the numbers without a sign, and of those with one.
type rule func(a, b, signedA, signedB *big.Int) *big.Int

func newInt() *big.Int { return new(big.Int) }

func less(a, b *big.Int) bool { return a.Cmp(b) < 0 }

// rules stand in the order of the operators, behind the first two.
var rules = []rule{
	func(a, b, _, _ *big.Int) *big.Int { return b },
	func(a, b, _, _ *big.Int) *big.Int { return newInt().Add(a, b) },
	func(a, b, _, _ *big.Int) *big.Int { return newInt().Xor(a, b) },
	func(a, b, _, _ *big.Int) *big.Int { return newInt().And(a, b) },
	func(a, b, _, _ *big.Int) *big.Int { return newInt().Or(a, b) },
	func(a, b, sa, sb *big.Int) *big.Int {
		if less(sa, sb) {
			return a
		}
		return b
	},
	func(a, b, sa, sb *big.Int) *big.Int {
		if less(sa, sb) {
			return b
		}
		return a
	},
	func(a, b, _, _ *big.Int) *big.Int {
		if less(a, b) {
			return a
		}
		return b
	},
	func(a, b, _, _ *big.Int) *big.Int {
		if less(a, b) {
			return b
		}
		return a
	},
}

// cut is n's lowest bits as a number without a sign.
func cut(n *big.Int, bits uint) *big.Int {
	return newInt().Mod(n, newInt().Lsh(big.NewInt(1), bits))
}

// signed is n's lowest bits as a number with a sign.
func signed(n *big.Int, bits uint) *big.Int {
	low := cut(n, bits)
	if low.Bit(int(bits)-1) == 1 {
		low.Sub(low, newInt().Lsh(big.NewInt(1), bits))
	}
	return low
}

// asked is what the rule makes of the lowest bits of two words.
func asked(one rule, old, x uint64, bits uint) uint64 {
	a, b := newInt().SetUint64(old), newInt().SetUint64(x)
	return cut(one(cut(a, bits), cut(b, bits), signed(a, bits), signed(b, bits)), bits).Uint64()
}

// samples are words at the ends of both readings of both widths, and mixed ones.
func samples() []uint64 {
	list := []uint64{0, 1, 2, 5, 0x123456789abcdef0, 0xfedcba9876543210, 0xaaaaaaaa55555555, 0x55555555aaaaaaaa, math.MaxUint64, math.MaxUint64 - 1}
	for _, at := range []int{8, 31, 32, 33, 63} {
		one := uint64(1) << at
		list = append(list, one-1, one, one+1, -one, -one-1, -one+1)
	}
	return list
}

// isAtomic: is op one of the lists?
func isAtomic(op int) bool {
	for i := range narrowOps {
		if op == narrowOps[i] || op == wideOps[i] {
			return true
		}
	}
	return false
}

// others are operators that are not atomic, and numbers that are none.
func others() []int {
	list := []int{0, -1, api.LastOp + 1, api.LastOp + 2, 1000, math.MinInt, math.MaxInt, math.MinInt32, 1 << 32}
	for op := 1; op <= api.LastOp; op++ {
		if !isAtomic(op) {
			list = append(list, op, -op, op+1<<8, op+1<<32)
		}
	}
	for i := range narrowOps {
		list = append(list, -narrowOps[i], wideOps[i]+1<<8, wideOps[i]+1<<32)
	}
	return list
}

// P9.1: Width.

func TestWidth(t *testing.T) {
	for i := range narrowOps {
		if got := Width(narrowOps[i]); got != 4 {
			t.Errorf("Width(%d): %d, not 4", narrowOps[i], got)
		}
		if got := Width(wideOps[i]); got != 8 {
			t.Errorf("Width(%d): %d, not 8", wideOps[i], got)
		}
	}
	for _, op := range others() {
		if got := Width(op); got != 0 {
			t.Errorf("Width(%d): %d, not 0", op, got)
		}
	}
}

// P9.1: Do.

func wantDo(t *testing.T, op int, old, x, want uint64) {
	t.Helper()
	if got, ok := Do(op, old, x); got != want || !ok {
		t.Errorf("Do(%d, %#x, %#x): %#x %v, not %#x", op, old, x, got, ok, want)
	}
}

func TestDoByItsRules(t *testing.T) {
	for i, one := range rules {
		for _, old := range samples() {
			for _, x := range samples() {
				wantDo(t, narrowOps[i+2], old, x, asked(one, old, x, 32))
				wantDo(t, wideOps[i+2], old, x, asked(one, old, x, 64))
			}
		}
	}
}

func TestDoOfSigns(t *testing.T) {
	wantDo(t, api.OpAmominW, 0xffffffff, 1, 0xffffffff)
	wantDo(t, api.OpAmomaxW, 0xffffffff, 1, 1)
	wantDo(t, api.OpAmominuW, 0xffffffff, 1, 1)
	wantDo(t, api.OpAmomaxuW, 0xffffffff, 1, 0xffffffff)
	wantDo(t, api.OpAmominD, 0xffffffff, 1, 1)
	wantDo(t, api.OpAmomaxD, 1<<63, 1, 1)
	wantDo(t, api.OpAmominuD, 1<<63, 1, 1)
	wantDo(t, api.OpAmomaxuD, 1<<63, 1, 1<<63)
}

func TestDoPassesOverUpperBits(t *testing.T) {
	upper := uint64(0xdeadbeef00000000)
	wantDo(t, api.OpAmoswapW, upper, upper|7, 7)
	wantDo(t, api.OpAmoswapD, upper, upper|7, upper|7)
	wantDo(t, api.OpAmoaddW, 0xffffffff, 2, 1)
	wantDo(t, api.OpAmoaddD, math.MaxUint64, 2, 1)
	wantDo(t, api.OpAmominW, 5, upper|3, 3)
	wantDo(t, api.OpAmomaxuW, upper|5, 7, 7)
	wantDo(t, api.OpAmoorW, upper|1<<31, upper|1, 1<<31|1)
}

func TestDoOfOthers(t *testing.T) {
	for _, op := range append(others(), api.OpLrW, api.OpScW, api.OpLrD, api.OpScD) {
		for _, x := range samples() {
			if got, ok := Do(op, x, ^x); got != 0 || ok {
				t.Errorf("Do(%d, %#x, %#x): %#x %v, not 0 and false", op, x, ^x, got, ok)
			}
		}
	}
}
