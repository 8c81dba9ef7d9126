// Package word is layer 1: words of 64 bits, as numbers with and without a sign, and as bytes.
package word

import "math/bits"

// wordBits and wordBytes are how long a word is.
const (
	wordBits  = 64
	wordBytes = 8
)

// Sext fills all above the lowest bits of x with the highest of them; x where bits is not from 1 to 64.
func Sext(x uint64, bits int) uint64 {
	if bits < 1 || bits > wordBits {
		return x
	}
	above := wordBits - bits
	return uint64(int64(x<<above) >> above)
}

// MulHU answers the upper half of the product of a and b as numbers without a sign.
func MulHU(a, b uint64) uint64 {
	high, _ := bits.Mul64(a, b)
	return high
}

// MulHSU answers the upper half of the product of a with a sign and b without one.
func MulHSU(a, b uint64) uint64 {
	return MulHU(a, b) - excess(a, b)
}

// MulH answers the upper half of the product of a and b as numbers with a sign.
func MulH(a, b uint64) uint64 {
	return MulHSU(a, b) - excess(b, a)
}

// excess is how much too great an upper half is when a's sign was passed over:
// without its sign a negative a is 2^64 too great, and so the product b times that.
func excess(a, b uint64) uint64 {
	if int64(a) < 0 {
		return b
	}
	return 0
}

// DivU answers the quotient of a and b as numbers without a sign; all bits 1 where b is 0.
func DivU(a, b uint64) uint64 {
	if b == 0 {
		return ^uint64(0)
	}
	return a / b
}

// RemU answers what DivU leaves of a; a where b is 0.
func RemU(a, b uint64) uint64 {
	if b == 0 {
		return a
	}
	return a % b
}

// Div answers the quotient, towards 0, of a and b as numbers with a sign; all bits 1 where b is 0.
func Div(a, b uint64) uint64 {
	if b == 0 {
		return ^uint64(0)
	}
	// The least number by -1 goes round to itself: Go's own division says so.
	return uint64(int64(a) / int64(b))
}

// Rem answers what Div leaves of a, with a's sign; a where b is 0.
func Rem(a, b uint64) uint64 {
	if b == 0 {
		return a
	}
	return uint64(int64(a) % int64(b))
}

// Put answers b and x's n lowest bytes behind it, the lowest first; b alone where n is not from 1 to 8.
func Put(b []byte, x uint64, n int) []byte {
	if !isByteCount(n) {
		n = 0
	}
	// Never b's own spare room: whoever handed b in may have laid something there.
	out := make([]byte, len(b), len(b)+n)
	copy(out, b)
	for i := range n {
		out = append(out, byte(x>>(8*i)))
	}
	return out
}

// Get answers the number that Put laid into b's first n bytes; bytes that b lacks count as 0, and so does all where n is not from 1 to 8.
func Get(b []byte, n int) uint64 {
	if !isByteCount(n) {
		return 0
	}
	x := uint64(0)
	for i := range min(n, len(b)) {
		x |= uint64(b[i]) << (8 * i)
	}
	return x
}

// isByteCount: may a word have that many bytes laid?
func isByteCount(n int) bool {
	return n >= 1 && n <= wordBytes
}

// Fits: is n a number with a sign of that many bits? Yes where bits is not from 1 to 63.
func Fits(n int, bits int) bool {
	if bits < 1 || bits >= wordBits {
		return true
	}
	limit := 1 << (bits - 1)
	return n >= -limit && n <= limit-1
}
