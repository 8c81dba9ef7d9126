package comp

import "marionette/word"

// short is a short instruction. Its methods give its pieces.
type short uint16

// bits are those from high down to low, with as many noughts below them as at tells.
func (s short) bits(high, low, at int) int {
	return int(s>>low) & (1<<(high-low+1) - 1) << at
}

// group is which of four groups it is of.
func (s short) group() int { return s.bits(1, 0, 0) }

// kind is which of its group's kinds it is of.
func (s short) kind() int { return s.bits(15, 13, 0) }

// stores: does it, among those that load and store, store?
func (s short) stores() bool { return s.bits(15, 15, 0) == 1 }

// double: does it, among those that load and store, move 64 bits, not 32?
func (s short) double() bool { return s.bits(13, 13, 0) == 1 }

// reckoner chooses among the operators of two registers.
func (s short) reckoner() int { return s.bits(12, 12, 2) | s.bits(6, 5, 0) }

func (s short) rd() int  { return s.bits(11, 7, 0) }
func (s short) rs2() int { return s.bits(6, 2, 0) }

// Three bits name the registers from 8 to 15.
func (s short) smallRd() int  { return s.bits(4, 2, 0) + 8 }
func (s short) smallRs1() int { return s.bits(9, 7, 0) + 8 }
func (s short) smallRs2() int { return s.smallRd() }

// shift is how far is shifted; number are the same bits with a sign.
func (s short) shift() int  { return s.bits(12, 12, 5) | s.bits(6, 2, 0) }
func (s short) number() int { return signed(s.shift(), 6) }

// upperNumber is the number as the upper part of a word.
func (s short) upperNumber() int { return s.number() << 12 }

// frameSize is what is added to the stack's place, as a register is set by it.
func (s short) frameSize() int {
	return s.bits(10, 7, 6) | s.bits(12, 11, 4) | s.bits(5, 5, 3) | s.bits(6, 6, 2)
}

// stackMove is what the stack's place is moved by.
func (s short) stackMove() int {
	return signed(s.bits(12, 12, 9)|s.bits(4, 3, 7)|s.bits(5, 5, 6)|s.bits(2, 2, 5)|s.bits(6, 6, 4), 10)
}

func (s short) jumpOffset() int {
	high := s.bits(12, 12, 11) | s.bits(8, 8, 10) | s.bits(10, 9, 8) | s.bits(6, 6, 7)
	low := s.bits(7, 7, 6) | s.bits(2, 2, 5) | s.bits(11, 11, 4) | s.bits(5, 3, 1)
	return signed(high|low, 12)
}

func (s short) branchOffset() int {
	return signed(s.bits(12, 12, 8)|s.bits(6, 5, 6)|s.bits(2, 2, 5)|s.bits(11, 10, 3)|s.bits(4, 3, 1), 9)
}

// offset is how far from a small register's place is loaded or stored.
func (s short) offset() int {
	if s.double() {
		return s.bits(6, 5, 6) | s.bits(12, 10, 3)
	}
	return s.bits(5, 5, 6) | s.bits(12, 10, 3) | s.bits(6, 6, 2)
}

// loadOffset is how far from the stack's place is loaded.
func (s short) loadOffset() int {
	if s.double() {
		return s.bits(4, 2, 6) | s.bits(12, 12, 5) | s.bits(6, 5, 3)
	}
	return s.bits(3, 2, 6) | s.bits(12, 12, 5) | s.bits(6, 4, 2)
}

// storeOffset is how far from the stack's place is stored.
func (s short) storeOffset() int {
	if s.double() {
		return s.bits(9, 7, 6) | s.bits(12, 10, 3)
	}
	return s.bits(8, 7, 6) | s.bits(12, 9, 2)
}

// signed is the number of that many bits that n is.
func signed(n, many int) int {
	return int(word.Sext(uint64(n), many))
}
