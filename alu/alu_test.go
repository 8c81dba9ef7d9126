package alu

import (
	"math"
	"math/big"
	"testing"

	"marionette/api"
)

const all = math.MaxUint64

// samples are words at the ends of both readings, at powers of two and beside them, and some mixed ones.
func samples() []uint64 {
	list := []uint64{0, 1, 2, 3, 5, 7, 63, 64, 65, 0x123456789abcdef0, 0xfedcba9876543210, 0xaaaaaaaa55555555, 0x1_0000_0000_0000, all, all - 1, all - 6}
	for _, at := range []int{5, 6, 31, 32, 33, 62, 63} {
		one := uint64(1) << at
		list = append(list, one-1, one, one+1, -one, -one-1, -one+1)
	}
	return list
}

// reckoner is what the document asks of an operator, reckoned with numbers of any length.
type reckoner func(a, b uint64) *big.Int

func unsigned(x uint64) *big.Int { return new(big.Int).SetUint64(x) }

func signedBig(x uint64) *big.Int { return big.NewInt(int64(x)) }

// cut is the word that a number's lowest bits are.
func cut(n *big.Int, bits uint) uint64 {
	mod := new(big.Int).Lsh(big.NewInt(1), bits)
	return new(big.Int).Mod(n, mod).Uint64()
}

// filled is a number's lowest 32 bits, all above them like the highest of them.
func filled(n *big.Int) uint64 {
	x := cut(n, 32)
	if x >= 1<<31 {
		x += 0xffffffff00000000
	}
	return x
}

func lowUnsigned(x uint64) *big.Int { return unsigned(x % (1 << 32)) }

func lowSigned(x uint64) *big.Int { return signedBig(filled(unsigned(x))) }

func one(yes bool) *big.Int {
	if yes {
		return big.NewInt(1)
	}
	return new(big.Int)
}

func quo(a, b *big.Int) *big.Int {
	if b.Sign() == 0 {
		return big.NewInt(-1)
	}
	return new(big.Int).Quo(a, b)
}

func rem(a, b *big.Int) *big.Int {
	if b.Sign() == 0 {
		return a
	}
	return new(big.Int).Rem(a, b)
}

func upper(a, b *big.Int) *big.Int { return new(big.Int).Rsh(new(big.Int).Mul(a, b), 64) }

// wide are the operators of whole words.
func wide() map[int]reckoner {
	add := func(a, b uint64) *big.Int { return new(big.Int).Add(unsigned(a), unsigned(b)) }
	xor := func(a, b uint64) *big.Int { return new(big.Int).Xor(unsigned(a), unsigned(b)) }
	or := func(a, b uint64) *big.Int { return new(big.Int).Or(unsigned(a), unsigned(b)) }
	and := func(a, b uint64) *big.Int { return new(big.Int).And(unsigned(a), unsigned(b)) }
	slt := func(a, b uint64) *big.Int { return one(signedBig(a).Cmp(signedBig(b)) < 0) }
	sltu := func(a, b uint64) *big.Int { return one(unsigned(a).Cmp(unsigned(b)) < 0) }
	sll := func(a, b uint64) *big.Int { return new(big.Int).Lsh(unsigned(a), uint(b%64)) }
	srl := func(a, b uint64) *big.Int { return new(big.Int).Rsh(unsigned(a), uint(b%64)) }
	sra := func(a, b uint64) *big.Int { return new(big.Int).Rsh(signedBig(a), uint(b%64)) }
	return map[int]reckoner{
		api.OpLui:  func(a, b uint64) *big.Int { return unsigned(b) },
		api.OpAddi: add, api.OpAdd: add,
		api.OpSub:  func(a, b uint64) *big.Int { return new(big.Int).Sub(unsigned(a), unsigned(b)) },
		api.OpXori: xor, api.OpXor: xor, api.OpOri: or, api.OpOr: or, api.OpAndi: and, api.OpAnd: and,
		api.OpSlti: slt, api.OpSlt: slt, api.OpSltiu: sltu, api.OpSltu: sltu,
		api.OpSlli: sll, api.OpSll: sll, api.OpSrli: srl, api.OpSrl: srl, api.OpSrai: sra, api.OpSra: sra,
		api.OpMul:    func(a, b uint64) *big.Int { return new(big.Int).Mul(unsigned(a), unsigned(b)) },
		api.OpMulh:   func(a, b uint64) *big.Int { return upper(signedBig(a), signedBig(b)) },
		api.OpMulhsu: func(a, b uint64) *big.Int { return upper(signedBig(a), unsigned(b)) },
		api.OpMulhu:  func(a, b uint64) *big.Int { return upper(unsigned(a), unsigned(b)) },
		api.OpDiv:    func(a, b uint64) *big.Int { return quo(signedBig(a), signedBig(b)) },
		api.OpDivu:   func(a, b uint64) *big.Int { return quo(unsigned(a), unsigned(b)) },
		api.OpRem:    func(a, b uint64) *big.Int { return rem(signedBig(a), signedBig(b)) },
		api.OpRemu:   func(a, b uint64) *big.Int { return rem(unsigned(a), unsigned(b)) },
	}
}

// halves are the operators that end in w.
func halves() map[int]reckoner {
	add := func(a, b uint64) *big.Int { return new(big.Int).Add(lowUnsigned(a), lowUnsigned(b)) }
	sll := func(a, b uint64) *big.Int { return new(big.Int).Lsh(lowUnsigned(a), uint(b%32)) }
	srl := func(a, b uint64) *big.Int { return new(big.Int).Rsh(lowUnsigned(a), uint(b%32)) }
	sra := func(a, b uint64) *big.Int { return new(big.Int).Rsh(lowSigned(a), uint(b%32)) }
	return map[int]reckoner{
		api.OpAddiw: add, api.OpAddw: add,
		api.OpSubw:  func(a, b uint64) *big.Int { return new(big.Int).Sub(lowUnsigned(a), lowUnsigned(b)) },
		api.OpMulw:  func(a, b uint64) *big.Int { return new(big.Int).Mul(lowUnsigned(a), lowUnsigned(b)) },
		api.OpSlliw: sll, api.OpSllw: sll, api.OpSrliw: srl, api.OpSrlw: srl, api.OpSraiw: sra, api.OpSraw: sra,
		api.OpDivw:  func(a, b uint64) *big.Int { return quo(lowSigned(a), lowSigned(b)) },
		api.OpRemw:  func(a, b uint64) *big.Int { return rem(lowSigned(a), lowSigned(b)) },
		api.OpDivuw: func(a, b uint64) *big.Int { return quo(lowUnsigned(a), lowUnsigned(b)) },
		api.OpRemuw: func(a, b uint64) *big.Int { return rem(lowUnsigned(a), lowUnsigned(b)) },
	}
}

// branches are the operators of Taken.
func branches() map[int]func(a, b uint64) bool {
	return map[int]func(a, b uint64) bool{
		api.OpBeq:  func(a, b uint64) bool { return unsigned(a).Cmp(unsigned(b)) == 0 },
		api.OpBne:  func(a, b uint64) bool { return unsigned(a).Cmp(unsigned(b)) != 0 },
		api.OpBlt:  func(a, b uint64) bool { return signedBig(a).Cmp(signedBig(b)) < 0 },
		api.OpBge:  func(a, b uint64) bool { return signedBig(a).Cmp(signedBig(b)) >= 0 },
		api.OpBltu: func(a, b uint64) bool { return unsigned(a).Cmp(unsigned(b)) < 0 },
		api.OpBgeu: func(a, b uint64) bool { return unsigned(a).Cmp(unsigned(b)) >= 0 },
	}
}

// operators are all numbers of operators, those beside them and those at the ends.
func operators() []int {
	list := []int{math.MinInt, math.MinInt32, math.MaxInt32, math.MaxInt, 1 << 32, 1<<32 + api.OpAdd, 256 + api.OpAdd}
	for op := -api.LastOp; op <= 2*api.LastOp; op++ {
		list = append(list, op)
	}
	return list
}

func hold(t *testing.T, op int, a, b, want uint64) {
	t.Helper()
	if got, ok := Do(op, a, b); !ok || got != want {
		t.Errorf("Do(%d, %#x, %#x) = %#x, %v, want %#x, true", op, a, b, got, ok, want)
	}
}

// P2.1
func TestDoByHand(t *testing.T) {
	const top, half = 1 << 63, 1 << 31
	const halfFilled = 0xffffffff80000000
	for _, c := range []struct {
		op         int
		a, b, want uint64
	}{
		{api.OpAddw, half - 1, 1, halfFilled}, {api.OpAddiw, half - 1, 1, halfFilled}, {api.OpAddw, all, 1, 0}, {api.OpAddiw, half, 0, halfFilled},
		{api.OpSubw, 0, half, halfFilled}, {api.OpSubw, 1 << 32, 1, all}, {api.OpMulw, half, 3, halfFilled}, {api.OpMulw, 1 << 16, 1 << 16, 0},
		{api.OpAdd, all, 1, 0}, {api.OpAddi, top, top, 0}, {api.OpSub, 0, 1, all}, {api.OpSub, 5, 7, all - 1},
		{api.OpXori, 0b1100, 0b1010, 0b0110}, {api.OpOri, 0b1100, 0b1010, 0b1110}, {api.OpAndi, 0b1100, 0b1010, 0b1000},
		{api.OpSlt, top, top - 1, 1}, {api.OpSltu, top, top - 1, 0}, {api.OpSlti, all, 0, 1}, {api.OpSltiu, 0, all, 1}, {api.OpSlt, 3, 3, 0}, {api.OpSltu, 3, 3, 0},
		{api.OpSll, 1, 63, top}, {api.OpSlli, 3, 64, 3}, {api.OpSrl, top, 63, 1}, {api.OpSrli, top, 127, 1}, {api.OpSra, top, 63, all}, {api.OpSrai, top - 1, 62, 1}, {api.OpSra, top, all, all},
		{api.OpSllw, 1, 31, halfFilled}, {api.OpSlliw, 3, 32, 3}, {api.OpSllw, 1, 64 + 33, 2}, {api.OpSrlw, half, 31, 1}, {api.OpSrliw, half, 32, halfFilled}, {api.OpSrlw, all, 1, half - 1}, {api.OpSraw, half, 31, all}, {api.OpSraiw, half - 1, 30, 1}, {api.OpSraw, 1 << 32, 1, 0},
		{api.OpMul, top, 3, top}, {api.OpMulh, all, all, 0}, {api.OpMulhsu, all, all, all}, {api.OpMulhu, all, all, all - 1},
		{api.OpDiv, 7, 0, all}, {api.OpDivu, 7, 0, all}, {api.OpRem, 7, 0, 7}, {api.OpRemu, 7, 0, 7}, {api.OpDiv, top, all, top}, {api.OpRem, top, all, 0}, {api.OpDiv, all - 6, 2, all - 2}, {api.OpRem, all - 6, 2, all},
		{api.OpDivw, half, all, halfFilled}, {api.OpRemw, half, all, 0}, {api.OpDivw, 7, 1 << 32, all}, {api.OpRemw, half, 1 << 40, halfFilled},
		{api.OpDivuw, 7, 0, all}, {api.OpDivuw, half, 1 << 32, all}, {api.OpRemuw, half, 0, halfFilled}, {api.OpDivuw, all, 1, all}, {api.OpDivuw, all, 2, half - 1}, {api.OpRemuw, all, half, half - 1},
		{api.OpLui, all, 0xfffffffffffff000, 0xfffffffffffff000}, {api.OpLui, 5, 0, 0},
	} {
		hold(t, c.op, c.a, c.b, c.want)
	}
}

// P2.1
func TestDoWide(t *testing.T) {
	for op, reckon := range wide() {
		for _, a := range samples() {
			for _, b := range samples() {
				hold(t, op, a, b, cut(reckon(a, b), 64))
			}
		}
	}
}

// P2.1
func TestDoHalves(t *testing.T) {
	for op, reckon := range halves() {
		for _, a := range samples() {
			for _, b := range samples() {
				hold(t, op, a, b, filled(reckon(a, b)))
			}
		}
	}
}

// P2.1: every operator that the chapter doesn't list, and every number that is none, is refused.
func TestKnown(t *testing.T) {
	full, narrowed := wide(), halves()
	for _, op := range operators() {
		want := full[op] != nil || narrowed[op] != nil
		if got := Known(op); got != want {
			t.Errorf("Known(%d) = %v, want %v", op, got, want)
		}
		if want {
			continue
		}
		for _, a := range []uint64{0, 9, all} {
			if x, ok := Do(op, a, all); x != 0 || ok {
				t.Errorf("Do(%d, %#x, all) = %#x, %v, want 0, false", op, a, x, ok)
			}
		}
	}
}

// P2.2
func TestTaken(t *testing.T) {
	for op, goes := range branches() {
		for _, a := range samples() {
			for _, b := range samples() {
				taken, ok := Taken(op, a, b)
				if want := goes(a, b); taken != want || !ok {
					t.Errorf("Taken(%d, %#x, %#x) = %v, %v, want %v, true", op, a, b, taken, ok, want)
				}
			}
		}
	}
}

// P2.2
func TestTakenOfNoBranch(t *testing.T) {
	known := branches()
	for _, op := range operators() {
		if known[op] != nil {
			continue
		}
		for _, b := range []uint64{0, 1, all} {
			if taken, ok := Taken(op, 1, b); taken || ok {
				t.Errorf("Taken(%d, 1, %#x) = %v, %v, want false, false", op, b, taken, ok)
			}
		}
	}
}
