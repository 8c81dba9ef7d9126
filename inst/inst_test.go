package inst

import (
	"math"
	"testing"

	"marionette/api"
)

// kind is which parts an instruction has: of an immediate the word's bits, the highest first, and how many noughts are below.
type kind struct {
	rd, rs1, rs2, order bool
	imm                 []int
	noughts             int
	plain               bool // the immediate has no sign
}

// row is one instruction of the chapter's table: those words w for which w & mask == match.
type row struct {
	op          int
	mask, match uint32
	kind        kind
}

// down is the bits from high down to low.
func down(high, low int) []int {
	var list []int
	for b := high; b >= low; b-- {
		list = append(list, b)
	}
	return list
}

func joined(lists ...[]int) []int {
	var all []int
	for _, l := range lists {
		all = append(all, l...)
	}
	return all
}

var (
	kindI   = kind{rd: true, rs1: true, imm: down(31, 20)}
	kindS   = kind{rs1: true, rs2: true, imm: joined(down(31, 25), down(11, 7))}
	kindB   = kind{rs1: true, rs2: true, imm: joined(down(31, 31), down(7, 7), down(30, 25), down(11, 8)), noughts: 1}
	kindU   = kind{rd: true, imm: down(31, 12), noughts: 12}
	kindJ   = kind{rd: true, imm: joined(down(31, 31), down(19, 12), down(20, 20), down(30, 21)), noughts: 1}
	kindR   = kind{rd: true, rs1: true, rs2: true}
	kindA   = kind{rd: true, rs1: true, rs2: true, order: true}
	kindLr  = kind{rd: true, rs1: true, order: true}
	kindSh  = kind{rd: true, rs1: true, imm: down(25, 20), plain: true}
	kindShW = kind{rd: true, rs1: true, imm: down(24, 20), plain: true}
)

const (
	onlyOpcode = 0x7f
	withF3     = 0x707f
	withF7     = 0xfe00707f
	withF6     = 0xfc00707f
	withF5     = 0xf800707f
	withF5Rs2  = 0xf9f0707f
)

// byF3 is rows of one opcode, by f3; an operator 0 is none.
func byF3(opcode, high uint32, mask uint32, k kind, ops ...int) []row {
	var list []row
	for f3, op := range ops {
		if op != 0 {
			list = append(list, row{op, mask, opcode | high | uint32(f3)<<12, k})
		}
	}
	return list
}

// atomics is the rows of one length, in the chapter's order.
func atomics(f3 uint32, first int) []row {
	var list []row
	for n, f5 := range []uint32{2, 3, 1, 0, 4, 12, 8, 16, 20, 24, 28} {
		r := row{first + n, withF5, 0x2f | f3<<12 | f5<<27, kindA}
		if n == 0 {
			r.mask, r.kind = withF5Rs2, kindLr
		}
		list = append(list, r)
	}
	return list
}

// table is the chapter's table.
func table() []row {
	const second, product = 32 << 25, 1 << 25
	list := []row{
		{api.OpLui, onlyOpcode, 0x37, kindU}, {api.OpAuipc, onlyOpcode, 0x17, kindU}, {api.OpJal, onlyOpcode, 0x6f, kindJ},
		{api.OpFence, withF3, 0x0f, kind{}}, {api.OpFenceI, withF3, 0x100f, kind{}},
		{api.OpEcall, 0xffffffff, 0x73, kind{}}, {api.OpEbreak, 0xffffffff, 0x100073, kind{}},
	}
	for _, more := range [][]row{
		byF3(0x67, 0, withF3, kindI, api.OpJalr),
		byF3(0x63, 0, withF3, kindB, api.OpBeq, api.OpBne, 0, 0, api.OpBlt, api.OpBge, api.OpBltu, api.OpBgeu),
		byF3(0x03, 0, withF3, kindI, api.OpLb, api.OpLh, api.OpLw, api.OpLd, api.OpLbu, api.OpLhu, api.OpLwu),
		byF3(0x23, 0, withF3, kindS, api.OpSb, api.OpSh, api.OpSw, api.OpSd),
		byF3(0x13, 0, withF3, kindI, api.OpAddi, 0, api.OpSlti, api.OpSltiu, api.OpXori, 0, api.OpOri, api.OpAndi),
		byF3(0x13, 0, withF6, kindSh, 0, api.OpSlli, 0, 0, 0, api.OpSrli),
		byF3(0x13, 16<<26, withF6, kindSh, 0, 0, 0, 0, 0, api.OpSrai),
		byF3(0x33, 0, withF7, kindR, api.OpAdd, api.OpSll, api.OpSlt, api.OpSltu, api.OpXor, api.OpSrl, api.OpOr, api.OpAnd),
		byF3(0x33, second, withF7, kindR, api.OpSub, 0, 0, 0, 0, api.OpSra),
		byF3(0x33, product, withF7, kindR, api.OpMul, api.OpMulh, api.OpMulhsu, api.OpMulhu, api.OpDiv, api.OpDivu, api.OpRem, api.OpRemu),
		byF3(0x1b, 0, withF3, kindI, api.OpAddiw),
		byF3(0x1b, 0, withF7, kindShW, 0, api.OpSlliw, 0, 0, 0, api.OpSrliw),
		byF3(0x1b, second, withF7, kindShW, 0, 0, 0, 0, 0, api.OpSraiw),
		byF3(0x3b, 0, withF7, kindR, api.OpAddw, api.OpSllw, 0, 0, 0, api.OpSrlw),
		byF3(0x3b, second, withF7, kindR, api.OpSubw, 0, 0, 0, 0, api.OpSraw),
		byF3(0x3b, product, withF7, kindR, api.OpMulw, 0, 0, 0, api.OpDivw, api.OpDivuw, api.OpRemw, api.OpRemuw),
		atomics(2, api.OpLrW), atomics(3, api.OpLrD),
	} {
		list = append(list, more...)
	}
	return list
}

// bitAt is the word's bit.
func bitAt(w uint32, at int) int { return int(w>>at) & 1 }

// number is what the bits tell, the highest first.
func (k kind) number(w uint32) int {
	n := 0
	for at, b := range k.imm {
		v := bitAt(w, b)
		if at == 0 && !k.plain {
			v = -v
		}
		n = n*2 + v
	}
	return n * (1 << k.noughts)
}

// wanted is the instruction that a row asks for of w.
func (r row) wanted(w uint32) api.Inst {
	i := api.Inst{Op: r.op, Size: 4, Imm: r.kind.number(w)}
	reg := func(has bool, at int) int {
		if !has {
			return 0
		}
		return int(w/(1<<at)) % 32
	}
	i.Rd, i.Rs1, i.Rs2 = reg(r.kind.rd, 7), reg(r.kind.rs1, 15), reg(r.kind.rs2, 20)
	if r.kind.order {
		i.Order = 2*bitAt(w, 26) + bitAt(w, 25)
	}
	return i
}

// seek is what the chapter asks of Decode.
func seek(list []row, w uint32) (api.Inst, bool) {
	for _, r := range list {
		if w&r.mask == r.match {
			return r.wanted(w), true
		}
	}
	return api.Inst{}, false
}

func holdDecode(t *testing.T, w uint32, want api.Inst, known bool) {
	t.Helper()
	if got, ok := Decode(w); got != want || ok != known {
		t.Errorf("Decode(%#08x) = %+v, %v, want %+v, %v", w, got, ok, want, known)
	}
}

// P3.1: the table has each operator once, so that the other tests pass over none.
func TestTableIsWhole(t *testing.T) {
	seen := map[int]int{}
	for _, r := range table() {
		seen[r.op]++
	}
	for op := 1; op <= api.LastOp; op++ {
		if seen[op] != 1 {
			t.Errorf("operator %d stands %d times", op, seen[op])
		}
	}
}

// P3.1
func TestDecodeByHand(t *testing.T) {
	for _, c := range []struct {
		w    uint32
		want api.Inst
	}{
		{0x00500093, api.Inst{Op: api.OpAddi, Rd: 1, Imm: 5, Size: 4}},
		{0x80000093, api.Inst{Op: api.OpAddi, Rd: 1, Imm: -2048, Size: 4}},
		{0x7ff00093, api.Inst{Op: api.OpAddi, Rd: 1, Imm: 2047, Size: 4}},
		{0x7ffff0b7, api.Inst{Op: api.OpLui, Rd: 1, Imm: 0x7ffff000, Size: 4}},
		{0xfffff097, api.Inst{Op: api.OpAuipc, Rd: 1, Imm: -4096, Size: 4}},
		{0x800000ef, api.Inst{Op: api.OpJal, Rd: 1, Imm: -1 << 20, Size: 4}},
		{0x7ffff0ef, api.Inst{Op: api.OpJal, Rd: 1, Imm: 1<<20 - 2, Size: 4}},
		{0x80208063, api.Inst{Op: api.OpBeq, Rs1: 1, Rs2: 2, Imm: -4096, Size: 4}},
		{0x7e208fe3, api.Inst{Op: api.OpBeq, Rs1: 1, Rs2: 2, Imm: 4094, Size: 4}},
		{0x80208023, api.Inst{Op: api.OpSb, Rs1: 1, Rs2: 2, Imm: -2048, Size: 4}},
		{0x7e20bfa3, api.Inst{Op: api.OpSd, Rs1: 1, Rs2: 2, Imm: 2047, Size: 4}},
		{0x03f09093, api.Inst{Op: api.OpSlli, Rd: 1, Rs1: 1, Imm: 63, Size: 4}},
		{0x41f0d09b, api.Inst{Op: api.OpSraiw, Rd: 1, Rs1: 1, Imm: 31, Size: 4}},
		{0x1a20b1af, api.Inst{Op: api.OpScD, Rd: 3, Rs1: 1, Rs2: 2, Order: 1, Size: 4}},
		{0x1400b1af, api.Inst{Op: api.OpLrD, Rd: 3, Rs1: 1, Order: 2, Size: 4}},
		{0x0ff0000f, api.Inst{Op: api.OpFence, Size: 4}},
		{0xffff8f8f, api.Inst{Op: api.OpFence, Size: 4}},
		{0xffff9f8f, api.Inst{Op: api.OpFenceI, Size: 4}},
	} {
		holdDecode(t, c.w, c.want, true)
	}
}

// P3.1
func TestDecodeOfNone(t *testing.T) {
	for _, w := range []uint32{
		0, math.MaxUint32, 0x00000001, 0x00000002, 0x00000013 &^ 3, // not an opcode
		0x00001067, 0x00002063, 0x00003063, 0x00007003, 0x00004023, 0x0000200f, // an f3 that is none
		0x04001013, 0x80005013, 0x44005013, 0x0200101b, 0x4200501b, 0x4000101b, // a shift too far
		0x40001033, 0x02001033 | 1<<26, 0x0200103b, 0x4000103b, 0x00002033 | 32<<25, // an f7 that is none
		0x1010202f, 0x1010302f, 0x0000102f, 0x0000402f, 0x2800202f, // rs2 of lr; lengths; no atomic one
		0x00200073, 0x000000f3, 0x00001073, 0x00100173, 0x30200073, // no call
	} {
		holdDecode(t, w, api.Inst{}, false)
	}
}

// P3.1: every opcode with every f3 and f7, and parts of all bits, of none and of some.
func TestDecode(t *testing.T) {
	list := table()
	for high := range uint32(128) {
		for f3 := range uint32(8) {
			for opcode := range uint32(128) {
				for _, parts := range []uint32{0, 0x01ff8f80, 0x00a98a80, 0x01560500, 0x00000080, 0x00100000} {
					w := high<<25 | f3<<12 | opcode | parts
					want, known := seek(list, w)
					if got, ok := Decode(w); got != want || ok != known {
						t.Fatalf("Decode(%#08x) = %+v, %v, want %+v, %v", w, got, ok, want, known)
					}
				}
			}
		}
	}
}

// P3.1: each single bit of each instruction goes to its own place.
func TestDecodeBits(t *testing.T) {
	list := table()
	for _, r := range list {
		for b := range 32 {
			for _, base := range []uint32{r.match, r.match | ^r.mask} {
				w := base ^ 1<<b
				want, known := seek(list, w)
				holdDecode(t, w, want, known)
			}
		}
	}
}

// P3.2: what is decoded is sound, and goes back to the word, but for what a fence passes over.
func TestEncodeOfDecoded(t *testing.T) {
	for _, r := range table() {
		for _, parts := range []uint32{0, math.MaxUint32, 0xaaaaaaaa, 0x55555555, 0x80000000, 0x0f0f0f0f} {
			w := r.match | parts&^r.mask
			i, ok := Decode(w)
			want := w
			switch r.op {
			case api.OpFence:
				want = 0x0ff0000f
			case api.OpFenceI:
				want = 0x0000100f
			}
			if !ok || !Sound(i) {
				t.Errorf("Sound(%+v) = false, want true", i)
			}
			if got, ok := Encode(i); got != want || !ok {
				t.Errorf("Encode(%+v) = %#08x, %v, want %#08x, true", i, got, ok, want)
			}
		}
	}
}

// may is which numbers an immediate can be.
func (k kind) may(n int) bool {
	many := len(k.imm) + k.noughts
	if k.plain {
		return n >= 0 && n < 1<<many
	}
	if many == 0 {
		return n == 0
	}
	return n >= -1<<(many-1) && n < 1<<(many-1) && n%(1<<k.noughts) == 0
}

// sound is what the chapter asks of Sound.
func (r row) sound(i api.Inst) bool {
	reg := func(has bool, n int) bool { return n == 0 || has && n > 0 && n < 32 }
	return i.Op == r.op && i.Size == 4 && reg(r.kind.rd, i.Rd) && reg(r.kind.rs1, i.Rs1) && reg(r.kind.rs2, i.Rs2) &&
		(i.Order == 0 || r.kind.order && i.Order > 0 && i.Order < 4) && r.kind.may(i.Imm)
}

// P3.2: each part of each instruction, at its ends and beyond them.
func TestSoundAtTheEnds(t *testing.T) {
	numbers := []int{0, 1, 2, 3, 4, 8, math.MinInt, math.MaxInt, math.MinInt32, math.MaxInt32, 1 << 32, -1 << 32}
	for bits := 4; bits < 34; bits++ {
		for near := -2; near <= 2; near++ {
			numbers = append(numbers, 1<<bits+near, -1<<bits+near)
		}
	}
	numbers = append(numbers, 1<<31-4096, 1<<31, -1<<31-4096)
	for _, r := range table() {
		for _, base := range []api.Inst{{Op: r.op, Size: 4}, r.wanted(r.match | 0xfffff80&^r.mask)} {
			for _, n := range numbers {
				for at := range 6 {
					i := base
					*[]*int{&i.Rd, &i.Rs1, &i.Rs2, &i.Imm, &i.Order, &i.Size}[at] = n
					holdSound(t, i, r.sound(i))
				}
			}
		}
	}
}

func holdSound(t *testing.T, i api.Inst, want bool) {
	t.Helper()
	if got := Sound(i); got != want {
		t.Errorf("Sound(%+v) = %v, want %v", i, got, want)
	}
	w, ok := Encode(i)
	if ok != want || !ok && w != 0 {
		t.Errorf("Encode(%+v) = %#08x, %v, want %v", i, w, ok, want)
	}
	if !ok {
		return
	}
	if back, _ := Decode(w); back != i {
		t.Errorf("Encode(%+v) = %#08x, which is %+v", i, w, back)
	}
}

// P3.2
func TestSoundOfNoOperator(t *testing.T) {
	for _, op := range []int{0, -1, api.LastOp + 1, 127, 128, 256 + api.OpAddi, 1<<32 + api.OpAddi, math.MinInt, math.MaxInt} {
		for _, more := range []api.Inst{{}, {Size: 4}, {Rd: 1, Rs1: 2, Rs2: 3, Imm: 4, Order: 1, Size: 4}, {Rd: -1, Rs1: -1, Rs2: -1, Imm: -1, Order: -1, Size: 4}} {
			i := more
			i.Op = op
			holdSound(t, i, false)
		}
	}
	holdSound(t, api.Inst{Op: api.OpAddi, Size: 2}, false)
	holdSound(t, api.Inst{Op: api.OpEcall}, false)
}
