package word

import (
	"bytes"
	"math"
	"math/big"
	"testing"
)

const all = math.MaxUint64

// samples are words at the ends of both readings, at powers of two and beside them, and some mixed ones.
func samples() []uint64 {
	list := []uint64{0, 1, 2, 3, 7, 10, 0x123456789abcdef0, 0xfedcba9876543210, 0xaaaaaaaaaaaaaaaa, 0x5555555555555555, all, all - 1, all - 6}
	for _, at := range []int{7, 8, 15, 16, 31, 32, 33, 47, 62, 63} {
		one := uint64(1) << at
		list = append(list, one-1, one, one+1, -one, -one-1, -one+1)
	}
	return list
}

func unsigned(x uint64) *big.Int { return new(big.Int).SetUint64(x) }

func signed(x uint64) *big.Int { return big.NewInt(int64(x)) }

// low is the word that a number's lowest 64 bits are.
func low(n *big.Int) uint64 {
	mod := new(big.Int).Lsh(big.NewInt(1), 64)
	return new(big.Int).Mod(n, mod).Uint64()
}

func high(a, b *big.Int) uint64 {
	return low(new(big.Int).Rsh(new(big.Int).Mul(a, b), 64))
}

func expect(t *testing.T, name string, a, b, got, want uint64) {
	t.Helper()
	if got != want {
		t.Errorf("%s(%#x, %#x) = %#x, want %#x", name, a, b, got, want)
	}
}

// P1.1
func TestSextExamples(t *testing.T) {
	for _, c := range []struct {
		x    uint64
		bits int
		want uint64
	}{
		{255, 8, all}, {127, 8, 127}, {128, 8, all - 127}, {256, 8, 0},
		{0, 1, 0}, {1, 1, all}, {2, 1, 0}, {3, 1, all},
		{1 << 62, 63, 0xc000000000000000}, {1 << 63, 63, 0}, {1<<62 - 1, 63, 1<<62 - 1},
		{1 << 63, 64, 1 << 63}, {all, 64, all}, {0x0123456789abcdef, 64, 0x0123456789abcdef},
		{1 << 31, 32, 0xffffffff80000000}, {0xffffffff7fffffff, 32, 0x7fffffff},
		{0x800, 12, 0xfffffffffffff800}, {0xabc7ff, 12, 0x7ff},
	} {
		expect(t, "Sext", c.x, uint64(c.bits), Sext(c.x, c.bits), c.want)
	}
}

// P1.1
func TestSextAllBits(t *testing.T) {
	for bits := 1; bits <= 64; bits++ {
		for _, x := range samples() {
			want := uint64(0)
			for i := range 64 {
				want |= x >> min(i, bits-1) & 1 << i
			}
			expect(t, "Sext", x, uint64(bits), Sext(x, bits), want)
		}
	}
}

// P1.1
func TestSextOutsideIsX(t *testing.T) {
	for _, bits := range []int{0, -1, -63, -64, 65, 66, 128, math.MaxInt, math.MinInt} {
		for _, x := range samples() {
			expect(t, "Sext", x, uint64(bits), Sext(x, bits), x)
		}
	}
}

// P1.1
func TestFitsAtTheEnds(t *testing.T) {
	for bits := 1; bits <= 63; bits++ {
		least, most := -1<<(bits-1), 1<<(bits-1)-1
		for _, n := range []int{least, least + 1, -1, 0, most - 1, most} {
			if !Fits(n, bits) {
				t.Errorf("Fits(%d, %d), want true", n, bits)
			}
		}
		for _, n := range []int{least - 1, most + 1, math.MinInt, math.MaxInt} {
			if Fits(n, bits) {
				t.Errorf("Fits(%d, %d), want false", n, bits)
			}
		}
	}
}

// P1.1
func TestFitsExamples(t *testing.T) {
	for _, c := range []struct {
		n, bits int
		want    bool
	}{
		{-128, 8, true}, {127, 8, true}, {128, 8, false}, {-129, 8, false},
		{0, 1, true}, {-1, 1, true}, {1, 1, false}, {-2, 1, false},
		{-1 << 62, 63, true}, {1<<62 - 1, 63, true}, {1 << 62, 63, false}, {-1<<62 - 1, 63, false},
	} {
		if got := Fits(c.n, c.bits); got != c.want {
			t.Errorf("Fits(%d, %d) = %t, want %t", c.n, c.bits, got, c.want)
		}
	}
}

// P1.1
func TestFitsOutsideIsTrue(t *testing.T) {
	for _, bits := range []int{0, -1, 64, 65, math.MaxInt, math.MinInt} {
		for _, n := range []int{0, 1, -1, 1 << 62, math.MaxInt, math.MinInt} {
			if !Fits(n, bits) {
				t.Errorf("Fits(%d, %d), want true", n, bits)
			}
		}
	}
}

// P1.2
func TestUpperHalves(t *testing.T) {
	for _, a := range samples() {
		for _, b := range samples() {
			expect(t, "MulHU", a, b, MulHU(a, b), high(unsigned(a), unsigned(b)))
			expect(t, "MulH", a, b, MulH(a, b), high(signed(a), signed(b)))
			expect(t, "MulHSU", a, b, MulHSU(a, b), high(signed(a), unsigned(b)))
		}
	}
}

// P1.2
func TestUpperHalvesExamples(t *testing.T) {
	expect(t, "MulHU", all, all, MulHU(all, all), all-1)
	expect(t, "MulH", all, all, MulH(all, all), 0)
	expect(t, "MulHSU", all, all, MulHSU(all, all), all)
	expect(t, "MulH", 1<<63, 1<<63, MulH(1<<63, 1<<63), 1<<62)
	expect(t, "MulHSU", 1<<63, 1<<63, MulHSU(1<<63, 1<<63), 0xc000000000000000)
	expect(t, "MulHSU", 2, all, MulHSU(2, all), 1)
	expect(t, "MulHSU", all, 2, MulHSU(all, 2), all)
	expect(t, "MulH", 1<<63, 2, MulH(1<<63, 2), all)
	expect(t, "MulHU", 0, all, MulHU(0, all), 0)
}

// P1.3
func TestDivision(t *testing.T) {
	for _, a := range samples() {
		for _, b := range samples() {
			if b == 0 {
				continue
			}
			quotient, left := new(big.Int).QuoRem(unsigned(a), unsigned(b), new(big.Int))
			expect(t, "DivU", a, b, DivU(a, b), low(quotient))
			expect(t, "RemU", a, b, RemU(a, b), low(left))
			quotient, left = new(big.Int).QuoRem(signed(a), signed(b), new(big.Int))
			expect(t, "Div", a, b, Div(a, b), low(quotient))
			expect(t, "Rem", a, b, Rem(a, b), low(left))
		}
	}
}

// P1.3
func TestDivisionByNought(t *testing.T) {
	for _, a := range samples() {
		expect(t, "DivU", a, 0, DivU(a, 0), all)
		expect(t, "RemU", a, 0, RemU(a, 0), a)
		expect(t, "Div", a, 0, Div(a, 0), all)
		expect(t, "Rem", a, 0, Rem(a, 0), a)
	}
}

// P1.3
func TestDivisionExamples(t *testing.T) {
	least, minus := uint64(1)<<63, func(n uint64) uint64 { return -n }
	expect(t, "Div", least, minus(1), Div(least, minus(1)), least)
	expect(t, "Rem", least, minus(1), Rem(least, minus(1)), 0)
	expect(t, "DivU", least, minus(1), DivU(least, minus(1)), 0)
	expect(t, "RemU", least, minus(1), RemU(least, minus(1)), least)
	expect(t, "Div", minus(7), 2, Div(minus(7), 2), minus(3))
	expect(t, "Rem", minus(7), 2, Rem(minus(7), 2), minus(1))
	expect(t, "Div", 7, minus(2), Div(7, minus(2)), minus(3))
	expect(t, "Rem", 7, minus(2), Rem(7, minus(2)), 1)
	expect(t, "Div", minus(7), minus(2), Div(minus(7), minus(2)), 3)
	expect(t, "Rem", minus(7), minus(2), Rem(minus(7), minus(2)), minus(1))
}

// P1.4
func TestPutEveryLength(t *testing.T) {
	const x = 0x8877665544332211
	lowest := []byte{0x11, 0x22, 0x33, 0x44, 0x55, 0x66, 0x77, 0x88}
	for _, before := range [][]byte{nil, {}, {9}, {1, 2, 3, 4, 5, 6, 7, 8, 9, 10}} {
		for n := 1; n <= 8; n++ {
			want := append(bytes.Clone(before), lowest[:n]...)
			if got := Put(before, x, n); !bytes.Equal(got, want) {
				t.Errorf("Put(%v, %#x, %d) = %v, want %v", before, uint64(x), n, got, want)
			}
		}
	}
}

// outside are the n that neither Put nor Get takes.
func outside() []int {
	return []int{0, -1, -8, 9, 16, math.MaxInt, math.MinInt}
}

// P1.4
func TestPutOutsideIsB(t *testing.T) {
	for _, n := range outside() {
		for _, before := range [][]byte{nil, {}, {1, 2, 3}} {
			if got := Put(before, all, n); !bytes.Equal(got, before) {
				t.Errorf("Put(%v, all, %d) = %v", before, n, got)
			}
		}
	}
}

// P1.4, R4
func TestPutAnswersNewMemory(t *testing.T) {
	for _, n := range append(outside(), 1, 2, 3, 8) {
		room := []byte{1, 2, 3, 70, 71, 72, 73, 74, 75, 76, 77, 78}
		kept := bytes.Clone(room)
		first := Put(room[:3], all, n)
		if !bytes.Equal(room, kept) {
			t.Fatalf("Put of %d bytes changed what was handed in: %v", n, room)
		}
		second := Put(room[:3], 0, n)
		want := bytes.Clone(second)
		clear(first[:cap(first)])
		if !bytes.Equal(room, kept) || !bytes.Equal(second, want) {
			t.Errorf("what Put of %d bytes answered shares memory", n)
		}
		clear(second[:cap(second)])
		if !bytes.Equal(room, kept) {
			t.Errorf("what Put of %d bytes answered shares memory with b", n)
		}
	}
}

// P1.4
func TestGetEveryLength(t *testing.T) {
	full := []byte{0xf1, 0x22, 0xf3, 0x44, 0xf5, 0x66, 0xf7, 0x88, 0xff}
	for size := range len(full) + 1 {
		for n := 1; n <= 8; n++ {
			want := uint64(0)
			for i := min(n, size) - 1; i >= 0; i-- {
				want = want*256 + uint64(full[i])
			}
			// Spare room behind the list's end must not be read: it counts as 0.
			if got := Get(full[:size], n); got != want {
				t.Errorf("Get(%v, %d) = %#x, want %#x", full[:size], n, got, want)
			}
		}
	}
}

// P1.4
func TestGetOutsideIsNought(t *testing.T) {
	b := []byte{1, 2, 3, 4, 5, 6, 7, 8, 9}
	for _, n := range outside() {
		for _, list := range [][]byte{nil, {}, b[:1], b} {
			if got := Get(list, n); got != 0 {
				t.Errorf("Get(%v, %d) = %#x, want 0", list, n, got)
			}
		}
	}
	for n := 1; n <= 8; n++ {
		if Get(nil, n) != 0 || Get([]byte{}, n) != 0 {
			t.Errorf("Get of nothing and %d, want 0", n)
		}
	}
}

// P1.4, R4
func TestGetChangesNothing(t *testing.T) {
	b := []byte{1, 2, 3, 4, 5, 6, 7, 8, 9}
	kept := bytes.Clone(b)
	for n := -1; n <= 10; n++ {
		Get(b[:4], n)
		if !bytes.Equal(b, kept) {
			t.Fatalf("Get of %d bytes changed what was handed in: %v", n, b)
		}
	}
}

// P1.4
func TestGetReadsWhatPutLaid(t *testing.T) {
	for _, x := range samples() {
		for n := 1; n <= 8; n++ {
			want := x & (all >> (64 - 8*n))
			expect(t, "Get of Put", x, uint64(n), Get(Put(nil, x, n), n), want)
			expect(t, "Get 8 of Put", x, uint64(n), Get(Put(nil, x, n), 8), want)
		}
	}
}
