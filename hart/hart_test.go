package hart

import (
	"math"
	"testing"

	"marionette/api"
	"marionette/atom"
	"marionette/cache"
	"marionette/inst"
	"marionette/mem"
)

// The places of a test's space: a page of code, and two of data, of which nothing is mapped around.
const (
	size = uint64(api.PageSize)
	code = 2 * size
	data = 5 * size
	end  = uint64(math.MaxUint64)
	x    = api.ProtX
	rw   = api.ProtR | api.ProtW
)

// Words of short instructions.
const (
	shortAddi = 0x4505 // addi x10, x0, 1
	shortJump = 0x8282 // jalr x0, 0, x5
	shortLink = 0x9282 // jalr x1, 0, x5
	shortStop = 0x9002 // ebreak
)

// spaceOf is a space with the words as its code, and 200, 199, .. as its data.
func spaceOf(words ...uint32) *mem.Space {
	s := mem.New(16)
	s.Map(code, size, x, true)
	s.Map(data, 2*size, rw, true)
	for n, w := range words {
		put(s, code+4*uint64(n), 4, uint64(w))
	}
	b := make([]byte, 2*size)
	for n := range b {
		b[n] = byte(200 - n)
	}
	s.Put(data, b)
	return s
}

// put lays the n lowest bytes of w at addr, whatever may be done there.
func put(s *mem.Space, addr uint64, n int, w uint64) {
	b := make([]byte, n)
	for k := range b {
		b[k] = byte(w >> (8 * k))
	}
	s.Put(addr, b)
}

// get is the number of the n bytes at addr.
func get(s *mem.Space, addr uint64, n int) uint64 {
	w := uint64(0)
	for k, b := range s.Peek(addr, n) {
		w |= uint64(b) << (8 * k)
	}
	return w
}

// wordOf is the word of an instruction.
func wordOf(t *testing.T, i api.Inst) uint32 {
	t.Helper()
	i.Size = 4
	w, ok := inst.Encode(i)
	if !ok {
		t.Fatalf("no instruction: %+v", i)
	}
	return w
}

// full is a state at the code whose registers are all unlike, and something is held.
func full() State {
	t := State{PC: code, Hold: atom.Hold{Addr: data + 8, Size: 8}}
	for n := range t.X {
		t.X[n] = uint64(n) * 0x0101010101010101
	}
	return t
}

// with is a state with other registers: number, then what it has, by turns.
func with(t State, pairs ...uint64) State {
	for n := 0; n+1 < len(pairs); n += 2 {
		t.X[pairs[n]] = pairs[n+1]
	}
	return t
}

// at is a state elsewhere.
func at(t State, pc uint64) State {
	t.PC = pc
	return t
}

// holding is a state with something else held.
func holding(t State, h atom.Hold) State {
	t.Hold = h
	return t
}

func machine(s *mem.Space, from State) *Hart {
	h := New(s, cache.New(true))
	h.Set(from)
	return h
}

func wantState(t *testing.T, h *Hart, want State) {
	t.Helper()
	if got := h.State(); got != want {
		t.Errorf("state %x, not %x", got, want)
	}
}

// wantStep does one Step from a state, with a cache and without one, that must have no stop.
func wantStep(t *testing.T, s *mem.Space, from, want State) {
	t.Helper()
	for _, c := range []*cache.Cache{nil, cache.New(false)} {
		h := New(s.Copy(), c)
		h.Set(from)
		if stop := h.Step(); stop != (api.Stop{}) {
			t.Errorf("stop %+v", stop)
		}
		wantState(t, h, want)
	}
	h := machine(s, from)
	if stop := h.Step(); stop != (api.Stop{}) {
		t.Errorf("stop %+v", stop)
	}
	wantState(t, h, want)
}

// wantDone does one instruction from a state, and answers the space behind it.
func wantDone(t *testing.T, i api.Inst, from, want State) *mem.Space {
	t.Helper()
	s := spaceOf(wordOf(t, i))
	wantStep(t, s, from, want)
	return s
}

// wantStop does one Step that must have this stop: all stays, but that nothing is held.
func wantStop(t *testing.T, s *mem.Space, from State, want api.Stop) {
	t.Helper()
	was, stamps := string(s.Peek(0, 1<<16)), [16]uint64{}
	for n := range stamps {
		stamps[n] = s.Stamp(uint64(n))
	}
	h := machine(s, from)
	for range 2 {
		if stop := h.Step(); stop != want {
			t.Errorf("stop %+v, not %+v", stop, want)
		}
		wantState(t, h, holding(from, atom.Hold{}))
	}
	if string(s.Peek(0, 1<<16)) != was {
		t.Error("a stop changes bytes")
	}
	for n := range stamps {
		if s.Stamp(uint64(n)) != stamps[n] {
			t.Errorf("a stop changes the stamp of page %d", n)
		}
	}
}

func fault(kind int, addr uint64) api.Stop {
	return api.Stop{Kind: api.StopFault, Fault: api.Fault{Kind: kind, Addr: addr}}
}

// P11.1: New, State, Set, Space.

func TestNew(t *testing.T) {
	s := spaceOf()
	for _, c := range []*cache.Cache{nil, cache.New(false), cache.New(true)} {
		h := New(s, c)
		wantState(t, h, State{})
		if h.Space() != s {
			t.Error("another space")
		}
		if c.Len() != 0 {
			t.Error("New fetches")
		}
	}
	if h := New(nil, nil); h == nil || h.Space() != nil {
		t.Error("a machine of no space")
	}
}

func TestSetIsAllOfIt(t *testing.T) {
	h := New(spaceOf(), nil)
	odd := State{PC: end, Hold: atom.Hold{Addr: 3, Size: -5}}
	for n := range odd.X {
		odd.X[n] = end - uint64(n)
	}
	none := full()
	none.Hold = atom.Hold{Addr: 7}
	for _, from := range []State{full(), odd, none, {}} {
		h.Set(from)
		from.X[0] = 0
		wantState(t, h, from)
		wantState(t, h, from)
	}
}

func TestRegisterZeroIsZeroWhateverIsSet(t *testing.T) {
	for _, x0 := range []uint64{1, 1 << 63, end} {
		h := machine(spaceOf(wordOf(t, api.Inst{Op: api.OpAdd, Rd: 5})), with(full(), 0, x0))
		wantState(t, h, full())
		h.Step()
		wantState(t, h, at(with(full(), 5, 0), code+4))
	}
}

// What is handed in or answered is not what is kept (rule R4).
func TestStateIsAValue(t *testing.T) {
	from := full()
	h := machine(spaceOf(), from)
	from.X[5], from.PC, from.Hold.Size = 1, 2, 3
	wantState(t, h, full())
	got := h.State()
	got.X[5], got.PC, got.Hold.Size = 1, 2, 3
	wantState(t, h, full())
}

func TestSetKeepsSpace(t *testing.T) {
	s := spaceOf()
	h := New(s, nil)
	h.Set(full())
	if h.Space() != s {
		t.Error("another space")
	}
}

// P11.2: a nil *Hart.

func TestNilHart(t *testing.T) {
	var h *Hart
	h.Set(full())
	wantState(t, h, State{})
	if h.Space() != nil {
		t.Error("a space")
	}
	if stop := h.Step(); stop != (api.Stop{Kind: api.StopIllegal}) {
		t.Errorf("Step: %+v", stop)
	}
	for _, fuel := range []int{0, 1, 5, -1, math.MaxInt, math.MinInt} {
		if stop, used := h.Run(fuel); stop != (api.Stop{Kind: api.StopIllegal}) || used != 0 {
			t.Errorf("Run(%d): %+v %d", fuel, stop, used)
		}
	}
}

// A machine of no space has nothing to fetch.
func TestHartOfNoSpace(t *testing.T) {
	for _, h := range []*Hart{{}, New(nil, nil), New(nil, cache.New(true)), New(&mem.Space{}, cache.New(true))} {
		if stop := h.Step(); stop != fault(api.FaultFetch, 0) {
			t.Errorf("Step: %+v", stop)
		}
		h.Set(full())
		if stop, used := h.Run(3); stop != fault(api.FaultFetch, code) || used != 0 {
			t.Errorf("Run: %+v %d", stop, used)
		}
		wantState(t, h, holding(full(), atom.Hold{}))
	}
}
