package comp

import (
	"strconv"
	"strings"
	"testing"

	"marionette/api"
	"marionette/inst"
)

// row is one line of the chapter's table, in the chapter's own words for pieces.
// A register is a number, "" (which is 0), or one of rd, rs2, rd', rs1' and rs2'.
// An immediate begins with s where it has a sign. When is what must hold of h, and none what must not.
type row struct {
	low, high     int
	op            int
	rd, rs1, rs2  string
	imm           string
	when, notWhen string
}

const (
	sixBits  = "h[12] h[6:2]"
	wordImm  = "h[5] h[12:10] h[6] 00"
	longImm  = "h[6:5] h[12:10] 000"
	jumpImm  = "s h[12] h[8] h[10:9] h[6] h[7] h[2] h[11] h[5:3] 0"
	closeImm = "s h[12] h[6:5] h[2] h[11:10] h[4:3] 0"
	spImm    = "s h[12] h[4:3] h[5] h[2] h[6] 0000"
	frameImm = "h[10:7] h[12:11] h[5] h[6] 00"
	register = "h[11:7]"
)

// table is the chapter's table. The first row that holds is meant.
func table() []row {
	list := []row{
		{0, 0, api.OpAddi, "rd'", "2", "", frameImm, "", frameImm + "=0"},
		{0, 2, api.OpLw, "rd'", "rs1'", "", wordImm, "", ""},
		{0, 3, api.OpLd, "rd'", "rs1'", "", longImm, "", ""},
		{0, 6, api.OpSw, "", "rs1'", "rs2'", wordImm, "", ""},
		{0, 7, api.OpSd, "", "rs1'", "rs2'", longImm, "", ""},
		{1, 0, api.OpAddi, "rd", "rd", "", "s " + sixBits, "", ""},
		{1, 1, api.OpAddiw, "rd", "rd", "", "s " + sixBits, "", register + "=0"},
		{1, 2, api.OpAddi, "rd", "", "", "s " + sixBits, "", ""},
		{1, 3, api.OpAddi, "2", "2", "", spImm, register + "=2", spImm + "=0"},
		{1, 3, api.OpLui, "rd", "", "", "s " + sixBits + " 000000000000", "", sixBits + "=0;" + register + "=2"},
		{1, 4, api.OpSrli, "rs1'", "rs1'", "", sixBits, "h[11:10]=0", ""},
		{1, 4, api.OpSrai, "rs1'", "rs1'", "", sixBits, "h[11:10]=1", ""},
		{1, 4, api.OpAndi, "rs1'", "rs1'", "", "s " + sixBits, "h[11:10]=2", ""},
		{1, 5, api.OpJal, "", "", "", jumpImm, "", ""},
		{1, 6, api.OpBeq, "", "rs1'", "", closeImm, "", ""},
		{1, 7, api.OpBne, "", "rs1'", "", closeImm, "", ""},
		{2, 0, api.OpSlli, "rd", "rd", "", sixBits, "", ""},
		{2, 2, api.OpLw, "rd", "2", "", "h[3:2] h[12] h[6:4] 00", "", register + "=0"},
		{2, 3, api.OpLd, "rd", "2", "", "h[4:2] h[12] h[6:5] 000", "", register + "=0"},
		{2, 4, api.OpJalr, "", "rd", "", "", "h[12]=0;h[6:2]=0", register + "=0"},
		{2, 4, api.OpAdd, "rd", "", "rs2", "", "h[12]=0", "h[6:2]=0"},
		{2, 4, api.OpEbreak, "", "", "", "", "h[12]=1;h[11:7]=0;h[6:2]=0", ""},
		{2, 4, api.OpJalr, "1", "rd", "", "", "h[12]=1;h[6:2]=0", ""},
		{2, 4, api.OpAdd, "rd", "rd", "rs2", "", "h[12]=1", ""},
		{2, 6, api.OpSw, "", "2", "rs2", "h[8:7] h[12:9] 00", "", ""},
		{2, 7, api.OpSd, "", "2", "rs2", "h[9:7] h[12:10] 000", "", ""},
	}
	for n, op := range []int{api.OpSub, api.OpXor, api.OpOr, api.OpAnd, api.OpSubw, api.OpAddw} {
		list = append(list, row{1, 4, op, "rs1'", "rs1'", "rs2'", "", "h[11:10]=3;h[12] h[6:5]=" + strconv.Itoa(n), ""})
	}
	return list
}

// spell is the bits that pieces told in the chapter's way are in h, the highest first.
func spell(h uint16, pieces string) string {
	all := ""
	for _, p := range strings.Fields(pieces) {
		inner, ok := strings.CutPrefix(p, "h[")
		if !ok {
			all += p
			continue
		}
		from, to, span := strings.Cut(strings.TrimSuffix(inner, "]"), ":")
		high, _ := strconv.Atoi(from)
		low := high
		if span {
			low, _ = strconv.Atoi(to)
		}
		for b := high; b >= low; b-- {
			all += strconv.Itoa(int(h) / (1 << b) % 2)
		}
	}
	return all
}

// number is what the pieces tell.
func number(h uint16, pieces string) int {
	plain, sign := strings.CutPrefix(pieces, "s ")
	all := spell(h, plain)
	n := 0
	for at, c := range all {
		v := int(c - '0')
		if at == 0 && sign {
			v = -v
		}
		n = 2*n + v
	}
	return n
}

func registerOf(h uint16, name string) int {
	switch name {
	case "rd":
		return number(h, "h[11:7]")
	case "rs2":
		return number(h, "h[6:2]")
	case "rd'", "rs2'":
		return number(h, "h[4:2]") + 8
	case "rs1'":
		return number(h, "h[9:7]") + 8
	}
	n, _ := strconv.Atoi(name)
	return n
}

// is tells whether pieces=number holds.
func is(h uint16, what string) bool {
	pieces, value, _ := strings.Cut(what, "=")
	n, _ := strconv.Atoi(value)
	return number(h, pieces) == n
}

func (r row) holds(h uint16) bool {
	if int(h)%4 != r.low || int(h)/8192 != r.high {
		return false
	}
	for _, w := range strings.FieldsFunc(r.when, func(c rune) bool { return c == ';' }) {
		if !is(h, w) {
			return false
		}
	}
	for _, w := range strings.FieldsFunc(r.notWhen, func(c rune) bool { return c == ';' }) {
		if is(h, w) {
			return false
		}
	}
	return true
}

// wanted is what the chapter asks of Expand, and which row of the table says so.
func wanted(list []row, h uint16) (api.Inst, int) {
	for n, r := range list {
		if r.holds(h) {
			return api.Inst{
				Op: r.op, Rd: registerOf(h, r.rd), Rs1: registerOf(h, r.rs1), Rs2: registerOf(h, r.rs2),
				Imm: number(h, r.imm), Size: 2,
			}, n
		}
	}
	return api.Inst{}, -1
}

// P4.1: every word of 16 bits there is.
func TestExpand(t *testing.T) {
	list := table()
	seen := make([]int, len(list))
	for n := range 1 << 16 {
		h := uint16(n)
		want, at := wanted(list, h)
		if at >= 0 {
			seen[at]++
		}
		if got, ok := Expand(h); got != want || ok != (at >= 0) {
			t.Fatalf("Expand(%#04x) = %+v, %v, want %+v, %v", h, got, ok, want, at >= 0)
		}
	}
	for at, many := range seen {
		if many == 0 {
			t.Errorf("row %d of the table is never meant", at)
		}
	}
}

// P4.1: words as other assemblers write them.
func TestExpandByHand(t *testing.T) {
	for _, c := range []struct {
		h    uint16
		want api.Inst
	}{
		{0x4505, api.Inst{Op: api.OpAddi, Rd: 10, Imm: 1}},
		{0x0001, api.Inst{Op: api.OpAddi}},
		{0x557d, api.Inst{Op: api.OpAddi, Rd: 10, Imm: -1}},
		{0x0800, api.Inst{Op: api.OpAddi, Rd: 8, Rs1: 2, Imm: 16}},
		{0x1fe0, api.Inst{Op: api.OpAddi, Rd: 8, Rs1: 2, Imm: 1020}},
		{0x1101, api.Inst{Op: api.OpAddi, Rd: 2, Rs1: 2, Imm: -32}},
		{0x7139, api.Inst{Op: api.OpAddi, Rd: 2, Rs1: 2, Imm: -64}},
		{0x7101, api.Inst{Op: api.OpAddi, Rd: 2, Rs1: 2, Imm: -512}},
		{0x617d, api.Inst{Op: api.OpAddi, Rd: 2, Rs1: 2, Imm: 496}},
		{0x6505, api.Inst{Op: api.OpLui, Rd: 10, Imm: 4096}},
		{0x757d, api.Inst{Op: api.OpLui, Rd: 10, Imm: -4096}},
		{0x6005, api.Inst{Op: api.OpLui, Imm: 4096}},
		{0x2505, api.Inst{Op: api.OpAddiw, Rd: 10, Rs1: 10, Imm: 1}},
		{0x4188, api.Inst{Op: api.OpLw, Rd: 10, Rs1: 11}},
		{0x6188, api.Inst{Op: api.OpLd, Rd: 10, Rs1: 11}},
		{0xc1c8, api.Inst{Op: api.OpSw, Rs1: 11, Rs2: 10, Imm: 4}},
		{0xe588, api.Inst{Op: api.OpSd, Rs1: 11, Rs2: 10, Imm: 8}},
		{0x917d, api.Inst{Op: api.OpSrli, Rd: 10, Rs1: 10, Imm: 63}},
		{0x957d, api.Inst{Op: api.OpSrai, Rd: 10, Rs1: 10, Imm: 63}},
		{0x997d, api.Inst{Op: api.OpAndi, Rd: 10, Rs1: 10, Imm: -1}},
		{0x8d0d, api.Inst{Op: api.OpSub, Rd: 10, Rs1: 10, Rs2: 11}},
		{0x8d2d, api.Inst{Op: api.OpXor, Rd: 10, Rs1: 10, Rs2: 11}},
		{0x8d4d, api.Inst{Op: api.OpOr, Rd: 10, Rs1: 10, Rs2: 11}},
		{0x8d6d, api.Inst{Op: api.OpAnd, Rd: 10, Rs1: 10, Rs2: 11}},
		{0x9d0d, api.Inst{Op: api.OpSubw, Rd: 10, Rs1: 10, Rs2: 11}},
		{0x9d2d, api.Inst{Op: api.OpAddw, Rd: 10, Rs1: 10, Rs2: 11}},
		{0xbffd, api.Inst{Op: api.OpJal, Imm: -2}},
		{0xaffd, api.Inst{Op: api.OpJal, Imm: 2046}},
		{0xb001, api.Inst{Op: api.OpJal, Imm: -2048}},
		{0xc101, api.Inst{Op: api.OpBeq, Rs1: 10}},
		{0xfd7d, api.Inst{Op: api.OpBne, Rs1: 10, Imm: -2}},
		{0xd101, api.Inst{Op: api.OpBeq, Rs1: 10, Imm: -256}},
		{0x0506, api.Inst{Op: api.OpSlli, Rd: 10, Rs1: 10, Imm: 1}},
		{0x40b2, api.Inst{Op: api.OpLw, Rd: 1, Rs1: 2, Imm: 12}},
		{0x60e2, api.Inst{Op: api.OpLd, Rd: 1, Rs1: 2, Imm: 24}},
		{0xc606, api.Inst{Op: api.OpSw, Rs1: 2, Rs2: 1, Imm: 12}},
		{0xec06, api.Inst{Op: api.OpSd, Rs1: 2, Rs2: 1, Imm: 24}},
		{0x8082, api.Inst{Op: api.OpJalr, Rs1: 1}},
		{0x9502, api.Inst{Op: api.OpJalr, Rd: 1, Rs1: 10}},
		{0x852e, api.Inst{Op: api.OpAdd, Rd: 10, Rs2: 11}},
		{0x952e, api.Inst{Op: api.OpAdd, Rd: 10, Rs1: 10, Rs2: 11}},
		{0x9002, api.Inst{Op: api.OpEbreak}},
	} {
		c.want.Size = 2
		if got, ok := Expand(c.h); got != c.want || !ok {
			t.Errorf("Expand(%#04x) = %+v, %v, want %+v", c.h, got, ok, c.want)
		}
	}
}

// P4.1
func TestExpandOfNone(t *testing.T) {
	for _, h := range []uint16{
		0, 0x001c, // nothing added to the stack's place
		0x2000, 0x8000, 0xa000, 0x2002, 0xa002, // kinds that the table does not have
		0x2001, 0x207d, // addiw of register 0
		0x6101, 0x6501, 0x6001, // an upper part of 0
		0x9d4d, 0x9d6d, // reckoners that are none
		0x4002, 0x6002, 0x507e, 0x707e, // loads into register 0
		0x8002,                         // a jump to register 0
		0x0003, 0x4507, 0x0073, 0xffff, // longer ones
	} {
		if got, ok := Expand(h); got != (api.Inst{}) || ok {
			t.Errorf("Expand(%#04x) = %+v, %v, want none", h, got, ok)
		}
	}
}

// P4.1
func TestShort(t *testing.T) {
	for n := range 1 << 16 {
		h := uint16(n)
		want := !strings.HasSuffix(spell(h, "h[1:0]"), "11")
		if got := Short(h); got != want {
			t.Fatalf("Short(%#04x) = %v", h, got)
		}
		if _, ok := Expand(h); ok && !want {
			t.Fatalf("Expand(%#04x) answers one that is not short", h)
		}
	}
}

// P3.2: but for its size, a short instruction is one of 32 bits.
func TestExpandedIsSound(t *testing.T) {
	for n := range 1 << 16 {
		i, ok := Expand(uint16(n))
		if !ok {
			continue
		}
		if inst.Sound(i) {
			t.Fatalf("%#04x: %+v is sound with its size", n, i)
		}
		i.Size = 4
		w, ok := inst.Encode(i)
		if back, _ := inst.Decode(w); !ok || !inst.Sound(i) || back != i {
			t.Fatalf("%#04x: %+v is not sound", n, i)
		}
	}
}
