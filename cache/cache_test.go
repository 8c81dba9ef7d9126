package cache

import (
	"testing"

	"marionette/api"
	"marionette/comp"
	"marionette/inst"
	"marionette/mem"
)

const (
	size = api.PageSize
	top  = uint64(api.Top)
	last = ^uint64(0)
	all  = api.ProtR | api.ProtW | api.ProtX
)

// Words of instructions, and of what is none.
const (
	addi5   = 0x00500093 // addi x1, x0, 5
	addi6   = 0x00600093 // addi x1, x0, 6
	short1  = 0x4505     // addi x10, x0, 1, of 16 bits
	short2  = 0x4509     // addi x10, x0, 2, of 16 bits
	none16  = 0x0000
	none32  = 0x0000007f
	noneAll = 0xffffffff
)

func addi(rd, imm, size int) api.Inst {
	return api.Inst{Op: api.OpAddi, Rd: rd, Imm: imm, Size: size}
}

// spaceOf is a space whose pages from first up to end are mapped with prot.
func spaceOf(t *testing.T, first, end uint64, prot int) *mem.Space {
	t.Helper()
	s := mem.New(100)
	if at, e := s.Map(first*size, (end-first)*size, prot, true); at != first*size || e != api.OK {
		t.Fatalf("Map: %#x %d", at, e)
	}
	return s
}

// put lays the n lowest bytes of x at addr, whatever may be done there.
func put(s *mem.Space, addr uint64, n int, x uint64) {
	b := make([]byte, n)
	for i := range b {
		b[i] = byte(x >> (8 * i))
	}
	s.Put(addr, b)
}

// eachCache does what is asked with a cache of every sort.
func eachCache(do func(name string, c *Cache)) {
	do("on", New(true))
	do("not on", New(false))
	do("zero", &Cache{})
	do("nil", nil)
}

// wantInst fetches twice, so that what the first one kept is asked for too.
func wantInst(t *testing.T, name string, c *Cache, s *mem.Space, pc uint64, want api.Inst) {
	t.Helper()
	for range 2 {
		if i, stop := c.Fetch(s, pc); i != want || stop != (api.Stop{}) {
			t.Errorf("%s: Fetch(%#x): %+v %+v, not %+v", name, pc, i, stop, want)
		}
	}
}

func wantStop(t *testing.T, name string, c *Cache, s *mem.Space, pc uint64, kind int, at uint64) {
	t.Helper()
	want := api.Stop{Kind: kind, Fault: api.Fault{Kind: api.FaultFetch, Addr: at}}
	for range 2 {
		if i, stop := c.Fetch(s, pc); i != (api.Inst{}) || stop != want {
			t.Errorf("%s: Fetch(%#x): %+v %+v, not %+v", name, pc, i, stop, want)
		}
	}
}

func wantLen(t *testing.T, name string, c *Cache, want int) {
	t.Helper()
	if got := c.Len(); got != want {
		t.Errorf("%s: Len: %d, not %d", name, got, want)
	}
}

// P10.1: what is fetched.

func TestFetchOfEachSize(t *testing.T) {
	eachCache(func(name string, c *Cache) {
		s := spaceOf(t, 1, 3, api.ProtX)
		put(s, size, 4, addi5)
		put(s, size+4, 2, short1)
		put(s, size+6, 4, addi6)
		put(s, 3*size-2, 2, short2)
		wantInst(t, name, c, s, size, addi(1, 5, 4))
		wantInst(t, name, c, s, size+4, addi(10, 1, 2))
		wantInst(t, name, c, s, size+6, addi(1, 6, 4))
		wantInst(t, name, c, s, 3*size-2, addi(10, 2, 2))
	})
}

func TestFetchOfWhatIsNone(t *testing.T) {
	eachCache(func(name string, c *Cache) {
		s := spaceOf(t, 1, 3, api.ProtX)
		for _, pc := range []uint64{size, size + 2, 2*size - 2, 3*size - 4} {
			for _, w := range []uint64{none16, none32, noneAll} {
				put(s, pc, 4, w)
				wantStop(t, name, c, s, pc, api.StopIllegal, pc)
			}
		}
		put(s, 3*size-2, 2, none16)
		wantStop(t, name, c, s, 3*size-2, api.StopIllegal, 3*size-2)
		wantLen(t, name, c, 0)
	})
}

func TestFetchOfFaults(t *testing.T) {
	eachCache(func(name string, c *Cache) {
		s := spaceOf(t, 1, 2, all)
		put(s, 2*size-2, 2, addi5)
		wantStop(t, name, c, s, 2*size-2, api.StopFault, 2*size)
		for _, pc := range []uint64{0, size - 2, 2 * size, size + 1, 2*size - 1, top - 2, top - 1, top, 1 << 63, last - 3, last - 1, last} {
			wantStop(t, name, c, s, pc, api.StopFault, pc)
		}
		wantLen(t, name, c, 0)
	})
}

func TestFetchOfNoSpace(t *testing.T) {
	eachCache(func(name string, c *Cache) {
		for _, pc := range []uint64{0, 1, size, top, last} {
			wantStop(t, name, c, nil, pc, api.StopFault, pc)
			wantStop(t, name, c, &mem.Space{}, pc, api.StopFault, pc)
		}
		wantLen(t, name, c, 0)
	})
}

func TestEveryProt(t *testing.T) {
	eachCache(func(name string, c *Cache) {
		for prot := range 8 {
			s := spaceOf(t, 1, 2, prot)
			put(s, size, 4, addi5)
			if prot&api.ProtX == 0 {
				wantStop(t, name, c, s, size, api.StopFault, size)
			} else {
				wantInst(t, name, c, s, size, addi(1, 5, 4))
			}
		}
	})
}

func TestFetchAtTop(t *testing.T) {
	eachCache(func(name string, c *Cache) {
		s := spaceOf(t, top/size-1, top/size, all)
		put(s, top-4, 4, addi5)
		wantInst(t, name, c, s, top-4, addi(1, 5, 4))
		put(s, top-2, 2, short1)
		wantInst(t, name, c, s, top-2, addi(10, 1, 2))
		put(s, top-2, 2, addi5)
		wantStop(t, name, c, s, top-2, api.StopFault, top)
	})
}

// P10.1: what is there now. Each change is of a space with an instruction over pages 1 and 2, and one on page 1 alone.

const (
	over  = 2*size - 2
	alone = size + 8
)

// change is something done to a space, and of each instruction the place of the fault then; 0 where it is there as it was.
type change struct {
	name        string
	do          func(s *mem.Space)
	over, alone uint64
}

func changes() []change {
	return []change{
		{"nothing", func(*mem.Space) {}, 0, 0},
		{"Unmap of the first", func(s *mem.Space) { s.Unmap(size, size) }, over, alone},
		{"Unmap of the second", func(s *mem.Space) { s.Unmap(2*size, size) }, 2 * size, 0},
		{"Unmap of all", func(s *mem.Space) { s.Unmap(0, top) }, over, alone},
		{"Protect of the first", func(s *mem.Space) { s.Protect(size, size, api.ProtR) }, over, alone},
		{"Protect of the second", func(s *mem.Space) { s.Protect(2*size, size, api.ProtR|api.ProtW) }, 2 * size, 0},
		{"Protect of both", func(s *mem.Space) { s.Protect(size, 2*size, 0) }, over, alone},
		{"Protect with all", func(s *mem.Space) { s.Protect(size, 2*size, all) }, 0, 0},
		{"Map of the second", func(s *mem.Space) { s.Map(2*size, size, api.ProtW, true) }, 2 * size, 0},
		{"Map of both", func(s *mem.Space) { s.Map(size, 2*size, api.ProtW, true) }, over, alone},
		{"Map beside", func(s *mem.Space) { s.Map(3*size, size, all, true) }, 0, 0},
	}
}

func wantOneOf(t *testing.T, name string, c *Cache, s *mem.Space, pc, gone uint64, want api.Inst) {
	t.Helper()
	if gone != 0 {
		wantStop(t, name, c, s, pc, api.StopFault, gone)
		return
	}
	wantInst(t, name, c, s, pc, want)
}

func TestChangesOfWhatMayBeDone(t *testing.T) {
	for _, change := range changes() {
		eachCache(func(name string, c *Cache) {
			s := spaceOf(t, 1, 3, api.ProtR|api.ProtX)
			put(s, over, 4, addi5)
			put(s, alone, 2, short1)
			wantInst(t, name, c, s, over, addi(1, 5, 4))
			wantInst(t, name, c, s, alone, addi(10, 1, 2))
			change.do(s)
			wantOneOf(t, name+": "+change.name, c, s, over, change.over, addi(1, 5, 4))
			wantOneOf(t, name+": "+change.name, c, s, alone, change.alone, addi(10, 1, 2))
		})
	}
}

func TestUnmapThenMap(t *testing.T) {
	eachCache(func(name string, c *Cache) {
		s := spaceOf(t, 1, 3, all)
		put(s, over, 4, addi5)
		wantInst(t, name, c, s, over, addi(1, 5, 4))
		s.Unmap(2*size, size)
		s.Map(2*size, size, all, true)
		wantInst(t, name, c, s, over, addi(1, 0, 4))
		s.Unmap(size, 2*size)
		s.Map(size, 2*size, all, true)
		wantStop(t, name, c, s, over, api.StopIllegal, over)
	})
}

func TestProtectAndBack(t *testing.T) {
	eachCache(func(name string, c *Cache) {
		s := spaceOf(t, 1, 3, all)
		put(s, over, 4, addi5)
		wantInst(t, name, c, s, over, addi(1, 5, 4))
		s.Protect(2*size, size, api.ProtW)
		s.Store(2*size, 2, addi6>>16)
		s.Protect(2*size, size, api.ProtX)
		wantInst(t, name, c, s, over, addi(1, 6, 4))
	})
}

func TestChangesOfBytes(t *testing.T) {
	for name, do := range map[string]func(s *mem.Space, addr uint64, n int, x uint64){
		"Store": func(s *mem.Space, addr uint64, n int, x uint64) { s.Store(addr, n, x) },
		"Put":   put,
		"Out": func(s *mem.Space, addr uint64, n int, x uint64) {
			s.Out(addr, []byte{byte(x), byte(x >> 8), byte(x >> 16), byte(x >> 24)}[:n])
		},
	} {
		c := New(true)
		s := spaceOf(t, 1, 3, all)
		for _, pc := range []uint64{size, size + 2, over, 2 * size, 3*size - 4} {
			do(s, pc, 4, addi5)
			wantInst(t, name, c, s, pc, addi(1, 5, 4))
			do(s, pc, 4, addi6)
			wantInst(t, name, c, s, pc, addi(1, 6, 4))
			do(s, pc+2, 2, addi5>>16)
			wantInst(t, name+" of the upper half", c, s, pc, addi(1, 5, 4))
			do(s, pc+1, 1, 0x01)
			wantInst(t, name+" of one byte", c, s, pc, addi(3, 5, 4))
			do(s, pc, 2, short1)
			wantInst(t, name+" of a short one", c, s, pc, addi(10, 1, 2))
			do(s, pc, 2, none16)
			wantStop(t, name+" of none", c, s, pc, api.StopIllegal, pc)
			do(s, pc, 2, short2)
			wantInst(t, name+" behind none", c, s, pc, addi(10, 2, 2))
		}
	}
}

func TestShortAheadOfWhatIsNotMapped(t *testing.T) {
	c := New(true)
	s := spaceOf(t, 1, 2, all)
	put(s, over, 2, short1)
	wantInst(t, "short", c, s, over, addi(10, 1, 2))
	put(s, over, 2, addi5&0xffff)
	wantStop(t, "long", c, s, over, api.StopFault, 2*size)
	s.Map(2*size, size, api.ProtX, true)
	wantInst(t, "long", c, s, over, addi(1, 0, 4))
	put(s, 2*size, 2, addi5>>16)
	wantInst(t, "long", c, s, over, addi(1, 5, 4))
}

func TestHeap(t *testing.T) {
	c := New(true)
	s := mem.New(10)
	s.SetBrk(size)
	s.Brk(3 * size)
	s.Protect(size, 2*size, all)
	put(s, over, 4, addi5)
	wantInst(t, "heap", c, s, over, addi(1, 5, 4))
	s.Brk(2 * size)
	wantStop(t, "shorter heap", c, s, over, api.StopFault, 2*size)
	s.Brk(3 * size)
	wantStop(t, "heap that may not be fetched", c, s, over, api.StopFault, 2*size)
	s.Protect(2*size, size, all)
	wantInst(t, "longer heap", c, s, over, addi(1, 0, 4))
}

// Stamps of two pages may be the same too; a wide Unmap stamps all together.
func TestPagesOfEqualStamps(t *testing.T) {
	c := New(true)
	s := spaceOf(t, 1, 3, all)
	put(s, over, 4, addi5)
	s.Unmap(3*size, top-3*size)
	wantInst(t, "equal stamps", c, s, over, addi(1, 5, 4))
	put(s, 2*size, 2, addi6>>16)
	wantInst(t, "second page", c, s, over, addi(1, 6, 4))
	s.Unmap(3*size, top-3*size)
	wantInst(t, "equal stamps", c, s, over, addi(1, 6, 4))
	put(s, over, 2, short1)
	wantInst(t, "first page", c, s, over, addi(10, 1, 2))
}

// P10.1: what is there in this space, and in no other one.

func TestSpacesOfEqualStamps(t *testing.T) {
	eachCache(func(name string, c *Cache) {
		five, six := spaceOf(t, 1, 3, all), spaceOf(t, 1, 3, all)
		put(five, over, 4, addi5)
		put(six, over, 4, addi6)
		for range 2 {
			wantInst(t, name, c, five, over, addi(1, 5, 4))
			wantInst(t, name, c, six, over, addi(1, 6, 4))
			wantStop(t, name, c, mem.New(3), over, api.StopFault, over)
			wantStop(t, name, c, nil, over, api.StopFault, over)
		}
	})
}

func TestCopyOfASpace(t *testing.T) {
	eachCache(func(name string, c *Cache) {
		s := spaceOf(t, 1, 3, all)
		put(s, over, 4, addi5)
		wantInst(t, name, c, s, over, addi(1, 5, 4))
		twin := s.Copy()
		put(twin, 2*size, 2, addi6>>16)
		wantInst(t, name, c, s, over, addi(1, 5, 4))
		wantInst(t, name, c, twin, over, addi(1, 6, 4))
		put(s, over, 2, short1)
		wantInst(t, name, c, twin, over, addi(1, 6, 4))
		wantInst(t, name, c, s, over, addi(10, 1, 2))
	})
}

func TestSpaceOfTwoCaches(t *testing.T) {
	s := spaceOf(t, 1, 3, all)
	put(s, over, 4, addi5)
	one, other := New(true), New(true)
	wantInst(t, "one", one, s, over, addi(1, 5, 4))
	wantLen(t, "other", other, 0)
	put(s, over, 4, addi6)
	wantInst(t, "other", other, s, over, addi(1, 6, 4))
	wantInst(t, "one", one, s, over, addi(1, 6, 4))
	other.Clear()
	wantLen(t, "one", one, 1)
}

// A Fetch only asks.
func TestFetchChangesNoSpace(t *testing.T) {
	s := spaceOf(t, 1, 3, all)
	put(s, over, 4, addi5)
	first, second := s.Stamp(1), s.Stamp(2)
	bytes := string(s.Peek(0, 4*size))
	wantInst(t, "on", New(true), s, over, addi(1, 5, 4))
	if s.Stamp(1) != first || s.Stamp(2) != second || string(s.Peek(0, 4*size)) != bytes || s.Pages() != 2 {
		t.Error("Fetch changes the space")
	}
}

// P10.1: every word, with a cache and without one.

func plain(s *mem.Space, pc uint64) (api.Inst, api.Stop) {
	w, f := s.Fetch(pc)
	if f.Kind != 0 {
		return api.Inst{}, api.Stop{Kind: api.StopFault, Fault: f}
	}
	i, ok := comp.Expand(uint16(w))
	if w&3 == 3 {
		i, ok = inst.Decode(w)
	}
	if ok {
		return i, api.Stop{}
	}
	return api.Inst{}, api.Stop{Kind: api.StopIllegal, Fault: api.Fault{Kind: api.FaultFetch, Addr: pc}}
}

func wantPlain(t *testing.T, c *Cache, s *mem.Space, pc uint64) {
	t.Helper()
	i, stop := c.Fetch(s, pc)
	if want, wantStop := plain(s, pc); i != want || stop != wantStop {
		t.Fatalf("Fetch(%#x): %+v %+v, not %+v %+v", pc, i, stop, want, wantStop)
	}
}

func TestEveryHalf(t *testing.T) {
	c := New(true)
	s := spaceOf(t, 1, 2, all)
	for h := range uint64(1 << 16) {
		put(s, size, 4, h|0x02a5<<16)
		wantPlain(t, c, s, size)
		wantPlain(t, c, s, size)
	}
}
