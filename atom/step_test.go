package atom

import (
	"bytes"
	"math"
	"math/rand"
	"slices"
	"testing"

	"marionette/api"
	"marionette/mem"
	"marionette/word"
)

const (
	size = uint64(api.PageSize)
	top  = uint64(api.Top)
	end  = uint64(math.MaxUint64)
	r    = api.ProtR
	w    = api.ProtW
	x    = api.ProtX
)

// old and given are words whose halves are unlike, each with a sign of its own.
const (
	old   = uint64(0x0123456789abcdef)
	given = uint64(0xfedcba9812345678)
)

// spaceOf is a space whose second page has prot, and noughts but for old at its beginning.
func spaceOf(prot int) *mem.Space {
	s := mem.New(8)
	s.Map(size, size, prot, true)
	s.Put(size, word.Put(nil, old, 8))
	return s
}

// atomics are all atomic operators.
func atomics() []int {
	return slices.Concat(narrowOps, wideOps)
}

func isLoad(op int) bool { return op == api.OpLrW || op == api.OpLrD }

func isStore(op int) bool { return op == api.OpScW || op == api.OpScD }

// holds are what may be held ahead of a step, that of no bytes among them.
func holds() []Hold {
	return []Hold{{}, {size, 4}, {size, 8}, {size + 4, 4}, {size + 8, 8}, {size, 0}, {0, 4}, {size, -4}, {size, 2}, {end, math.MaxInt}}
}

func wantStep(t *testing.T, s *mem.Space, h Hold, op int, addr, x, result uint64, then Hold) {
	t.Helper()
	got, gotThen, stop := Step(s, h, op, addr, x)
	if got != result || gotThen != then || stop != (api.Stop{}) {
		t.Errorf("Step(%x, %d, %#x, %#x): %#x %x %x, not %#x %x", h, op, addr, x, got, gotThen, stop, result, then)
	}
}

// wantStop does a step that must have this stop, hold nothing, and do nothing.
func wantStop(t *testing.T, s *mem.Space, h Hold, op int, addr uint64, want api.Stop) {
	t.Helper()
	wantKept(t, s, func() {
		got, then, stop := Step(s, h, op, addr, given)
		if got != 0 || then != (Hold{}) || stop != want {
			t.Errorf("Step(%x, %d, %#x): %#x %x %x, not %x", h, op, addr, got, then, stop, want)
		}
	})
}

// wantKept does something that must leave the second page, and the one behind it, as they were.
func wantKept(t *testing.T, s *mem.Space, do func()) {
	t.Helper()
	was := s.Peek(size, 2*api.PageSize)
	stamps := [2]uint64{s.Stamp(1), s.Stamp(2)}
	do()
	if !bytes.Equal(was, s.Peek(size, 2*api.PageSize)) {
		t.Errorf("other bytes")
	}
	if now := [2]uint64{s.Stamp(1), s.Stamp(2)}; now != stamps {
		t.Errorf("stamps %d, not %d", now, stamps)
	}
}

func wantBytes(t *testing.T, s *mem.Space, addr uint64, want uint64) {
	t.Helper()
	if got := word.Get(s.Peek(addr, 8), 8); got != want {
		t.Errorf("%#x at %#x, not %#x", got, addr, want)
	}
}

func fault(kind int, addr uint64) api.Stop {
	return api.Stop{Kind: api.StopFault, Fault: api.Fault{Kind: kind, Addr: addr}}
}

// P9.2: what is refused ahead of any access.

func TestStepOfNoAtomic(t *testing.T) {
	for _, op := range others() {
		for _, addr := range []uint64{size, size + 1, 0, top, end} {
			for _, s := range []*mem.Space{spaceOf(r | w), nil} {
				wantStop(t, s, Hold{size, 4}, op, addr, api.Stop{Kind: api.StopIllegal})
			}
		}
	}
}

func TestStepAtNoMultiple(t *testing.T) {
	for _, op := range atomics() {
		wide := uint64(Width(op))
		for _, base := range []uint64{size, 2*size - wide, 0, top, end - wide + 1} {
			for by := uint64(1); by < wide; by++ {
				stop := api.Stop{Kind: api.StopAlign, Fault: api.Fault{Addr: base + by}}
				wantStop(t, spaceOf(r|w), Hold{base + by, int(wide)}, op, base+by, stop)
				wantStop(t, nil, Hold{size, int(wide)}, op, base+by, stop)
			}
		}
	}
}

func TestNarrowAtMultipleOfFour(t *testing.T) {
	s := spaceOf(r | w)
	wantStep(t, s, Hold{}, api.OpLrW, size+4, 0, 0x01234567, Hold{size + 4, 4})
	wantStep(t, s, Hold{size + 4, 4}, api.OpScW, size+4, given, 0, Hold{})
	wantBytes(t, s, size, 0x1234567889abcdef)
	wantStep(t, s, Hold{}, api.OpAmoswapW, size+4, 5, 0x12345678, Hold{})
	wantBytes(t, s, size, 0x0000000589abcdef)
}

// P9.2: lr.

func TestLoadHeld(t *testing.T) {
	for _, h := range holds() {
		for _, prot := range []int{r, r | w, r | x, r | w | x} {
			s := spaceOf(prot)
			wantKept(t, s, func() {
				wantStep(t, s, h, api.OpLrW, size, given, 0xffffffff89abcdef, Hold{size, 4})
				wantStep(t, s, h, api.OpLrD, size, given, old, Hold{size, 8})
				wantStep(t, s, h, api.OpLrW, 2*size-4, given, 0, Hold{2*size - 4, 4})
				wantStep(t, s, h, api.OpLrD, 2*size-8, given, 0, Hold{2*size - 8, 8})
			})
		}
	}
}

// P9.2: sc.

func TestStoreOfWhatIsHeld(t *testing.T) {
	for _, prot := range []int{w, r | w, w | x, r | w | x} {
		s := spaceOf(prot)
		wantStep(t, s, Hold{size, 4}, api.OpScW, size, given, 0, Hold{})
		wantBytes(t, s, size, 0x0123456712345678)
		wantStep(t, s, Hold{size, 8}, api.OpScD, size, given, 0, Hold{})
		wantBytes(t, s, size, given)
		wantStep(t, s, Hold{2*size - 8, 8}, api.OpScD, 2*size-8, given, 0, Hold{})
		wantBytes(t, s, 2*size-8, given)
	}
}

func TestStoreOfWhatIsNotHeld(t *testing.T) {
	s := spaceOf(r | w)
	for _, h := range holds() {
		for _, op := range []int{api.OpScW, api.OpScD} {
			for _, addr := range []uint64{size, size + 8, size + 16, 2*size - 8} {
				if h == (Hold{addr, Width(op)}) {
					continue
				}
				wantKept(t, s, func() { wantStep(t, s, h, op, addr, given, 1, Hold{}) })
			}
		}
	}
}

func TestHeldOnce(t *testing.T) {
	s := spaceOf(r | w)
	_, h, _ := Step(s, Hold{}, api.OpLrW, size, 0)
	zero, h, _ := Step(s, h, api.OpScW, size, 5)
	one, h, _ := Step(s, h, api.OpScW, size, 6)
	if zero != 0 || one != 1 || h != (Hold{}) {
		t.Errorf("%d %d %x, not 0 and 1", zero, one, h)
	}
	wantBytes(t, s, size, 0x0123456700000005)
	_, h, _ = Step(s, h, api.OpLrD, size, 0)
	_, h, _ = Step(s, h, api.OpScD, size+8, 7) // elsewhere: what was held is held no more
	wantStep(t, s, h, api.OpScD, size, 8, 1, Hold{})
	wantBytes(t, s, size, 0x0123456700000005)
	wantBytes(t, s, size+8, 0)
}

func TestLastOneIsHeld(t *testing.T) {
	s := spaceOf(r | w)
	_, h, _ := Step(s, Hold{}, api.OpLrW, size, 0)
	_, h, _ = Step(s, h, api.OpLrW, size+4, 0)
	wantKept(t, s, func() { wantStep(t, s, h, api.OpScW, size, 1, 1, Hold{}) })
	wantStep(t, s, h, api.OpScW, size+4, 1, 0, Hold{})
}

func TestHeldOverOtherStores(t *testing.T) {
	s := spaceOf(r | w)
	_, h, _ := Step(s, Hold{}, api.OpLrW, size, 0)
	s.Store(size, 8, 9)
	_, h, _ = Step(s, h, api.OpAmoaddW, size, 1)
	wantStep(t, s, h, api.OpScW, size, 3, 0, Hold{})
	wantBytes(t, s, size, 3)
}

// P9.2: what loads and stores.

func TestChangeByItsRules(t *testing.T) {
	for i, one := range rules {
		for _, was := range samples() {
			for _, b := range samples() {
				s := spaceOf(r | w)
				s.Store(size, 8, was)
				wantStep(t, s, Hold{}, narrowOps[i+2], size, b, uint64(int32(was)), Hold{})
				wantBytes(t, s, size, was>>32<<32|asked(one, was, b, 32))
				s.Store(size, 8, was)
				wantStep(t, s, Hold{}, wideOps[i+2], size, b, was, Hold{})
				wantBytes(t, s, size, asked(one, was, b, 64))
			}
		}
	}
}

func TestChangeKeepsWhatIsHeld(t *testing.T) {
	for _, op := range atomics() {
		if isLoad(op) || isStore(op) {
			continue
		}
		for _, h := range holds() {
			if _, then, stop := Step(spaceOf(r|w), h, op, size, 1); then != h || stop != (api.Stop{}) {
				t.Errorf("Step(%x, %d): %x %x", h, op, then, stop)
			}
		}
	}
}

func TestChangeOfNoBytesBeside(t *testing.T) {
	s := spaceOf(r | w)
	s.Put(size, bytes.Repeat([]byte{0x77}, 32))
	wantStep(t, s, Hold{}, api.OpAmoxorW, size+8, end, 0x77777777, Hold{})
	wantStep(t, s, Hold{}, api.OpAmoxorD, size+16, end, 0x7777777777777777, Hold{})
	wantBytes(t, s, size, 0x7777777777777777)
	wantBytes(t, s, size+8, 0x7777777788888888)
	wantBytes(t, s, size+16, 0x8888888888888888)
	wantBytes(t, s, size+24, 0x7777777777777777)
}

// P9.2: faults.

// faultOf is the fault that op has at addr where a page has prot.
func faultOf(op int, addr uint64, prot int) api.Stop {
	if !isStore(op) && prot&r == 0 {
		return fault(api.FaultLoad, addr)
	}
	if !isLoad(op) && prot&w == 0 {
		return fault(api.FaultStore, addr)
	}
	return api.Stop{}
}

func TestFaultsOfEveryProt(t *testing.T) {
	for prot := range 8 {
		for _, op := range atomics() {
			for _, h := range append(holds(), Hold{size + 16, 4}, Hold{size + 16, 8}) {
				for _, addr := range []uint64{size, size + 16, 2*size - 8} {
					s := spaceOf(prot)
					if want := faultOf(op, addr, prot); want.Kind != 0 {
						wantStop(t, s, h, op, addr, want)
					} else if _, _, stop := Step(s, h, op, addr, given); stop != want {
						t.Errorf("prot %d: Step(%d, %#x): %x", prot, op, addr, stop)
					}
				}
			}
		}
	}
}

func TestFaultsOfWhatIsNotMapped(t *testing.T) {
	for _, op := range atomics() {
		for _, addr := range []uint64{0, size - 8, 2 * size, top - 8, top, 1 << 63, end - 7} {
			for _, s := range []*mem.Space{spaceOf(r | w | x), mem.New(0), nil} {
				wantStop(t, s, Hold{addr, Width(op)}, op, addr, faultOf(op, addr, 0))
			}
		}
	}
}

func TestNoSpace(t *testing.T) {
	for _, op := range atomics() {
		wantStop(t, nil, Hold{size, Width(op)}, op, size, faultOf(op, size, 0))
	}
}

func TestLastWordBelowTop(t *testing.T) {
	s := mem.New(1)
	s.Map(top-size, size, r|w, true)
	for _, op := range atomics() {
		addr := top - uint64(Width(op))
		if _, _, stop := Step(s, Hold{addr, Width(op)}, op, addr, given); stop != (api.Stop{}) {
			t.Errorf("Step(%d, %#x): %x", op, addr, stop)
		}
	}
}

// P9.2: many steps, held against a plain model of two pages, of which the second may only be read.

type plain struct {
	b    [2 * api.PageSize]byte
	held map[uint64]int // how many bytes are held, by place: of one place at most
}

func (p *plain) step(op int, addr, x uint64) (uint64, api.Stop) {
	wide := Width(op)
	isHeld := p.held[addr] == wide
	if isLoad(op) || isStore(op) {
		clear(p.held)
	}
	if addr%uint64(wide) != 0 {
		clear(p.held)
		return 0, api.Stop{Kind: api.StopAlign, Fault: api.Fault{Addr: addr}}
	}
	if addr >= size && !isLoad(op) {
		clear(p.held)
		return 0, fault(api.FaultStore, addr)
	}
	cell := p.b[addr : addr+uint64(wide)]
	was := word.Get(cell, wide)
	switch {
	case isStore(op) && !isHeld:
		return 1, api.Stop{}
	case isStore(op):
		copy(cell, word.Put(nil, x, wide))
		return 0, api.Stop{}
	case isLoad(op):
		p.held[addr] = wide
	default:
		one := rules[max(slices.Index(narrowOps, op), slices.Index(wideOps, op))-2]
		copy(cell, word.Put(nil, asked(one, was, x, uint(8*wide)), wide))
	}
	return word.Sext(was, 8*wide), api.Stop{}
}

// hold is what is held, as Step tells it.
func (p *plain) hold() Hold {
	for addr, wide := range p.held {
		return Hold{addr, wide}
	}
	return Hold{}
}

func TestAgainstPlainSteps(t *testing.T) {
	rnd := rand.New(rand.NewSource(1))
	s, p, h := mem.New(2), &plain{held: map[uint64]int{}}, Hold{}
	s.Map(0, size, r|w, true)
	s.Map(size, size, r, true)
	rnd.Read(p.b[:])
	s.Put(0, p.b[:])
	ops := append(atomics(), api.OpLrW, api.OpLrD, api.OpScW, api.OpScD)
	stored := 0
	for range 200000 {
		op, x := ops[rnd.Intn(len(ops))], rnd.Uint64()>>(rnd.Intn(2)*32)
		addr := size - 16 + 4*uint64(rnd.Intn(6))
		if rnd.Intn(20) == 0 {
			addr += uint64(rnd.Intn(4))
		}
		want, wantStop := p.step(op, addr, x)
		got, then, stop := Step(s, h, op, addr, x)
		if got != want || stop != wantStop || then != p.hold() {
			t.Fatalf("Step(%x, %d, %#x, %#x): %#x %x %x, not %#x %x %x", h, op, addr, x, got, then, stop, want, p.hold(), wantStop)
		}
		if isStore(op) && got == 0 && stop.Kind == 0 {
			stored++
		}
		h = then
	}
	if !bytes.Equal(s.Peek(0, len(p.b)), p.b[:]) {
		t.Errorf("other bytes")
	}
	if stored == 0 {
		t.Errorf("nothing that was held was stored")
	}
}
