package hart

import (
	"math"
	"math/bits"
	"math/rand"
	"testing"

	"marionette/api"
	"marionette/atom"
	"marionette/cache"
	"marionette/comp"
	"marionette/inst"
	"marionette/mem"
)

// A plain machine, told anew: bytes and permissions stand in lists by place, and nothing is kept but the state. P11.1 and P11.2, with P4 and P5.

// pagesOfModel is how many pages the plain machine knows; those beyond are not mapped.
const pagesOfModel = 8

type model struct {
	state State
	bytes [pagesOfModel * api.PageSize]byte
	prot  [pagesOfModel]int
}

// may: may a place be used so?
func (m *model) may(addr uint64, prot int) bool {
	return addr < uint64(len(m.bytes)) && m.prot[addr/size]&prot != 0
}

// refused answers the first of n places that may not be used so.
func (m *model) refused(addr uint64, n, prot, kind int) (api.Stop, bool) {
	for k := range uint64(n) {
		if !m.may(addr+k, prot) {
			return fault(kind, addr+k), true
		}
	}
	return api.Stop{}, false
}

func (m *model) get(addr uint64, n int) uint64 {
	w := uint64(0)
	for k := range uint64(n) {
		w |= uint64(m.bytes[addr+k]) << (8 * k)
	}
	return w
}

func (m *model) put(addr uint64, n int, w uint64) {
	for k := range uint64(n) {
		m.bytes[addr+k] = byte(w >> (8 * k))
	}
}

func (m *model) fetch() (api.Inst, api.Stop) {
	pc := m.state.PC
	if pc%2 != 0 {
		return api.Inst{}, fault(api.FaultFetch, pc)
	}
	if stop, no := m.refused(pc, 2, api.ProtX, api.FaultFetch); no {
		return api.Inst{}, stop
	}
	h := m.get(pc, 2)
	i, ok := comp.Expand(uint16(h))
	if h&3 == 3 {
		if stop, no := m.refused(pc+2, 2, api.ProtX, api.FaultFetch); no {
			return api.Inst{}, stop
		}
		i, ok = inst.Decode(uint32(m.get(pc, 4)))
	}
	if !ok {
		return api.Inst{}, api.Stop{Kind: api.StopIllegal, Fault: api.Fault{Kind: api.FaultFetch, Addr: pc}}
	}
	return i, api.Stop{}
}

// step does an instruction; beside a stop nothing but what is held has changed.
func (m *model) step() api.Stop {
	i, stop := m.fetch()
	if stop.Kind == api.StopNone {
		stop = m.do(i)
	}
	if stop.Kind != api.StopNone {
		m.state.Hold = atom.Hold{}
	}
	m.state.X[0] = 0
	return stop
}

func (m *model) do(i api.Inst) api.Stop {
	t := &m.state
	a, b, imm, here := t.X[i.Rs1], t.X[i.Rs2], uint64(i.Imm), t.PC
	to := here + uint64(i.Size)
	switch op := i.Op; {
	case op == api.OpEcall:
		return api.Stop{Kind: api.StopEcall}
	case op == api.OpEbreak:
		return api.Stop{Kind: api.StopBreak}
	case op == api.OpFence || op == api.OpFenceI:
	case op == api.OpJal:
		t.X[i.Rd], to = to, here+imm
	case op == api.OpJalr:
		t.X[i.Rd], to = to, (a+imm)>>1<<1
	case op >= api.OpBeq && op <= api.OpBgeu:
		if []bool{a == b, a != b, int64(a) < int64(b), int64(a) >= int64(b), a < b, a >= b}[op-api.OpBeq] {
			to = here + imm
		}
	case op >= api.OpLb && op <= api.OpLwu:
		n := []int{1, 2, 4, 8, 1, 2, 4}[op-api.OpLb]
		if stop, no := m.refused(a+imm, n, api.ProtR, api.FaultLoad); no {
			return stop
		}
		w := m.get(a+imm, n)
		if op <= api.OpLd {
			w = uint64(int64(w<<(64-8*n)) >> (64 - 8*n))
		}
		t.X[i.Rd] = w
	case op >= api.OpSb && op <= api.OpSd:
		n := 1 << (op - api.OpSb)
		if stop, no := m.refused(a+imm, n, api.ProtW, api.FaultStore); no {
			return stop
		}
		m.put(a+imm, n, b)
	case op >= api.OpLrW && op <= api.OpAmomaxuD:
		if stop := m.atomic(i, a, b); stop.Kind != api.StopNone {
			return stop
		}
	default:
		t.X[i.Rd] = reckoned(i, here, a, b)
	}
	t.PC = to
	return api.Stop{}
}

func (m *model) atomic(i api.Inst, addr, x uint64) api.Stop {
	op, n := i.Op, 4
	if op >= api.OpLrD {
		op, n = op-api.OpLrD+api.OpLrW, 8
	}
	if addr%uint64(n) != 0 {
		return api.Stop{Kind: api.StopAlign, Fault: api.Fault{Addr: addr}}
	}
	if op != api.OpScW {
		if stop, no := m.refused(addr, n, api.ProtR, api.FaultLoad); no {
			return stop
		}
	}
	if op != api.OpLrW {
		if stop, no := m.refused(addr, n, api.ProtW, api.FaultStore); no {
			return stop
		}
	}
	t, here := &m.state, atom.Hold{Addr: addr, Size: n}
	if op == api.OpScW {
		held := t.Hold == here
		t.Hold, t.X[i.Rd] = atom.Hold{}, 1
		if held {
			m.put(addr, n, x)
			t.X[i.Rd] = 0
		}
		return api.Stop{}
	}
	old := m.get(addr, n)
	if n == 4 {
		old, x = uint64(int32(old)), uint64(int32(x))
	}
	t.X[i.Rd] = old
	switch op {
	case api.OpLrW:
		t.Hold = here
	case api.OpAmoswapW:
		m.put(addr, n, x)
	case api.OpAmoaddW:
		m.put(addr, n, old+x)
	case api.OpAmoxorW:
		m.put(addr, n, old^x)
	case api.OpAmoandW:
		m.put(addr, n, old&x)
	case api.OpAmoorW:
		m.put(addr, n, old|x)
	case api.OpAmominW:
		m.put(addr, n, uint64(min(int64(old), int64(x))))
	case api.OpAmomaxW:
		m.put(addr, n, uint64(max(int64(old), int64(x))))
	case api.OpAmominuW:
		m.put(addr, n, min(old, x))
	case api.OpAmomaxuW:
		m.put(addr, n, max(old, x))
	}
	return api.Stop{}
}

// reckoned is what instructions make of registers and immediates.
func reckoned(i api.Inst, here, a, b uint64) uint64 {
	op := i.Op
	// With an immediate and with a second register they stand in one order, but for the differences.
	pairs := map[int]int{
		api.OpAddi: api.OpAdd, api.OpSlti: api.OpSlt, api.OpSltiu: api.OpSltu, api.OpXori: api.OpXor, api.OpOri: api.OpOr,
		api.OpAndi: api.OpAnd, api.OpSlli: api.OpSll, api.OpSrli: api.OpSrl, api.OpSrai: api.OpSra,
		api.OpAddiw: api.OpAddw, api.OpSlliw: api.OpSllw, api.OpSrliw: api.OpSrlw, api.OpSraiw: api.OpSraw,
	}
	if other, ok := pairs[op]; ok {
		op, b = other, uint64(i.Imm)
	}
	narrow := func(w uint32) uint64 { return uint64(int32(w)) }
	one := func(is bool) uint64 {
		if is {
			return 1
		}
		return 0
	}
	switch op {
	case api.OpLui:
		return uint64(i.Imm)
	case api.OpAuipc:
		return here + uint64(i.Imm)
	case api.OpAdd:
		return a + b
	case api.OpSub:
		return a - b
	case api.OpSll:
		return a << (b % 64)
	case api.OpSlt:
		return one(int64(a) < int64(b))
	case api.OpSltu:
		return one(a < b)
	case api.OpXor:
		return a ^ b
	case api.OpSrl:
		return a >> (b % 64)
	case api.OpSra:
		return uint64(int64(a) >> (b % 64))
	case api.OpOr:
		return a | b
	case api.OpAnd:
		return a & b
	case api.OpAddw:
		return narrow(uint32(a + b))
	case api.OpSubw:
		return narrow(uint32(a - b))
	case api.OpSllw:
		return narrow(uint32(a) << (b % 32))
	case api.OpSrlw:
		return narrow(uint32(a) >> (b % 32))
	case api.OpSraw:
		return uint64(int32(a) >> (b % 32))
	}
	return multiplied(op, a, b)
}

// multiplied is what instructions make of products and quotients.
func multiplied(op int, a, b uint64) uint64 {
	upper, _ := bits.Mul64(a, b)
	if op == api.OpMulh || op == api.OpMulhsu {
		upper -= uint64(int64(a)>>63) & b
	}
	if op == api.OpMulh {
		upper -= uint64(int64(b)>>63) & a
	}
	switch op {
	case api.OpMul:
		return a * b
	case api.OpMulh, api.OpMulhsu, api.OpMulhu:
		return upper
	case api.OpMulw:
		return uint64(int32(a * b))
	case api.OpDivw:
		return uint64(int32(divided(int64(int32(a)), int64(int32(b)))))
	case api.OpDiv:
		return uint64(divided(int64(a), int64(b)))
	case api.OpRemw:
		return uint64(int32(int64(int32(a)) - divided(int64(int32(a)), int64(int32(b)))*int64(int32(b))))
	case api.OpRem:
		return uint64(int64(a) - divided(int64(a), int64(b))*int64(b))
	case api.OpDivuw, api.OpRemuw:
		q, r := uint32(math.MaxUint32), uint32(a)
		if uint32(b) != 0 {
			q, r = uint32(a)/uint32(b), uint32(a)%uint32(b)
		}
		if op == api.OpDivuw {
			return uint64(int32(q))
		}
		return uint64(int32(r))
	}
	q, r := uint64(math.MaxUint64), a
	if b != 0 {
		q, r = a/b, a%b
	}
	if op == api.OpDivu {
		return q
	}
	return r
}

// divided is a quotient as the machine has it: -1 by 0.
func divided(a, b int64) int64 {
	switch b {
	case 0:
		return -1
	case -1:
		return -a
	}
	return a / b
}

// trial is a plain machine, and machines that must be as it is.
type trial struct {
	pick  *rand.Rand
	plain *model
	harts []*Hart
	done  [api.LastOp + 1]int // how many of each operator were done
	stops [api.StopFuel + 1]int
}

// newTrial lays pages of mixed permissions: what is written may be code too.
func newTrial(seed int64) *trial {
	l := &trial{pick: rand.New(rand.NewSource(seed)), plain: &model{}}
	all := rw | x
	l.plain.prot = [pagesOfModel]int{0, all, all, rw, api.ProtR, 0, api.ProtW, x}
	for _, c := range []*cache.Cache{cache.New(true), cache.New(false), nil} {
		s := mem.New(pagesOfModel)
		for n, prot := range l.plain.prot {
			if prot != 0 {
				s.Map(uint64(n)*size, size, prot, true)
			}
		}
		l.harts = append(l.harts, New(s, c))
	}
	return l
}

// lay lays n bytes in all machines' spaces.
func (l *trial) lay(addr uint64, n int, w uint64) {
	l.plain.put(addr, n, w)
	for _, h := range l.harts {
		put(h.Space(), addr, n, w)
	}
}

// code is an instruction, or at times what is none.
func (l *trial) code() (w uint64, n int) {
	opcodes := []uint32{0x37, 0x17, 0x6f, 0x67, 0x63, 0x03, 0x03, 0x23, 0x23, 0x13, 0x33, 0x33, 0x1b, 0x3b, 0x3b, 0x2f, 0x2f, 0x2f, 0x2f, 0x0f, 0x73}
	for l.pick.Intn(400) != 0 {
		if l.pick.Intn(3) == 0 {
			h := uint16(l.pick.Intn(1 << 16))
			if _, ok := comp.Expand(h); ok {
				return uint64(h), 2
			}
			continue
		}
		w := l.pick.Uint32()&^0x7f | opcodes[l.pick.Intn(len(opcodes))]
		switch w & 0x7f {
		case 0x13, 0x1b, 0x33, 0x3b:
			if l.pick.Intn(4) != 0 {
				w = w&0x01ffffff | []uint32{0, 1, 32}[l.pick.Intn(3)]<<25
			}
		case 0x2f:
			kinds := []uint32{2, 3, 1, 0, 4, 12, 8, 16, 20, 24, 28}
			w = w&0x07ff8fff | kinds[l.pick.Intn(len(kinds))]<<27 | uint32(2+l.pick.Intn(2))<<12
			if w>>27 == 2 {
				w &^= 31 << 20
			}
		case 0x73:
			w = []uint32{0x73, 0x100073}[l.pick.Intn(2)]
		}
		if _, ok := inst.Decode(w); ok {
			return uint64(w), 4
		}
	}
	return l.pick.Uint64(), 4
}

// register is a place at or near a page's edge, or any number.
func (l *trial) register() uint64 {
	near := uint64(l.pick.Intn(pagesOfModel+1)) * size
	switch l.pick.Intn(8) {
	case 0:
		return l.pick.Uint64()
	case 1:
		return uint64(int64(l.pick.Intn(40) - 20))
	case 2:
		return []uint64{1 << 63, 1<<63 - 1, math.MaxUint32, 1 << 31, 1<<31 - 1, api.Top}[l.pick.Intn(6)]
	case 3:
		return near + uint64(l.pick.Intn(64)-32)
	}
	return near + uint64(8*(l.pick.Intn(512)))
}

// state is a state in or near the code.
func (l *trial) state() State {
	t := State{PC: uint64(1+l.pick.Intn(2))*size + uint64(2*(l.pick.Intn(2040)))}
	if l.pick.Intn(30) == 0 {
		t.PC = l.register()
	}
	for n := range t.X {
		t.X[n] = l.register()
	}
	if l.pick.Intn(2) == 0 {
		t.Hold = atom.Hold{Addr: t.X[1+l.pick.Intn(31)], Size: 4 + 4*l.pick.Intn(2)}
	}
	return t
}

func (l *trial) set(t State) {
	l.plain.state = t
	l.plain.state.X[0] = 0
	for _, h := range l.harts {
		h.Set(t)
	}
}

// step does a Step of all.
func (l *trial) step(t *testing.T) {
	t.Helper()
	was := l.plain.state
	i, _ := l.plain.fetch()
	want := l.plain.step()
	l.stops[want.Kind]++
	if want.Kind == api.StopNone {
		l.done[i.Op]++
	}
	for n, h := range l.harts {
		if stop := h.Step(); stop != want || h.State() != l.plain.state {
			t.Fatalf("machine %d: %+v of %x: %+v %x, not %+v %x", n, i, was, stop, h.State(), want, l.plain.state)
		}
	}
}

// run does Steps till there is a stop, or most of them, by Run.
func (l *trial) run(t *testing.T, most int) {
	t.Helper()
	want, used := api.Stop{Kind: api.StopFuel}, 0
	for used < most {
		if stop := l.plain.step(); stop.Kind != api.StopNone {
			want = stop
			break
		}
		used++
	}
	for n, h := range l.harts {
		stop, got := h.Run(most)
		if stop != want || got != used || h.State() != l.plain.state {
			t.Fatalf("machine %d: Run(%d): %+v %d %x, not %+v %d %x", n, most, stop, got, h.State(), want, used, l.plain.state)
		}
	}
}

func (l *trial) wantBytes(t *testing.T) {
	t.Helper()
	for n, h := range l.harts {
		if string(h.Space().Peek(0, len(l.plain.bytes))) != string(l.plain.bytes[:]) {
			t.Fatalf("machine %d: other bytes", n)
		}
	}
}

// fill lays new code.
func (l *trial) fill() {
	for addr := size; addr < 3*size-4; {
		w, n := l.code()
		l.lay(addr, n, w)
		addr += uint64(n)
	}
}

func TestByAPlainMachine(t *testing.T) {
	var done [api.LastOp + 1]int
	var stops [api.StopFuel + 1]int
	for seed := range int64(12) {
		l := newTrial(seed)
		for range 10 {
			l.fill()
			for range 500 {
				l.set(l.state())
				for range 1 + l.pick.Intn(6) {
					l.step(t)
				}
				if l.pick.Intn(4) == 0 {
					l.run(t, l.pick.Intn(40)-2)
				}
			}
			l.wantBytes(t)
		}
		for n := range done {
			done[n] += l.done[n]
		}
		for n := range stops {
			stops[n] += l.stops[n]
		}
	}
	wantAll(t, done[:], stops[:])
}

// wantAll asks that the trials came to each operator that can be done without a stop, and to each stop.
func wantAll(t *testing.T, done, stops []int) {
	t.Helper()
	for op := 1; op < api.OpEcall; op++ {
		if done[op] < 20 {
			t.Errorf("operator %d was done %d times", op, done[op])
		}
	}
	for kind := api.StopNone; kind <= api.StopAlign; kind++ {
		if stops[kind] < 20 {
			t.Errorf("stop %d came %d times", kind, stops[kind])
		}
	}
}
