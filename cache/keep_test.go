package cache

import (
	"math/rand"
	"testing"

	"marionette/api"
	"marionette/mem"
)

// P10.2: how many are kept.

// codeOf is a space of that many pages of code, a short instruction at every even place.
func codeOf(t *testing.T, pages uint64) *mem.Space {
	t.Helper()
	s := spaceOf(t, 0, pages, api.ProtX)
	for addr := uint64(0); addr < pages*size; addr += 2 {
		put(s, addr, 2, short1)
	}
	return s
}

func TestLen(t *testing.T) {
	c := New(true)
	s := codeOf(t, 1)
	wantLen(t, "new", c, 0)
	for n := range 100 {
		wantInst(t, "code", c, s, uint64(2*n), addi(10, 1, 2))
		wantLen(t, "code", c, n+1)
	}
	for _, pc := range []uint64{1, size, top, last} {
		wantStop(t, "no code", c, s, pc, api.StopFault, pc)
		wantLen(t, "no code", c, 100)
	}
}

func TestLenOfWhatIsGone(t *testing.T) {
	c := New(true)
	s := codeOf(t, 2)
	wantInst(t, "code", c, s, 0, addi(10, 1, 2))
	wantInst(t, "code", c, s, size, addi(10, 1, 2))
	wantLen(t, "code", c, 2)
	put(s, 0, 2, none16)
	wantStop(t, "none", c, s, 0, api.StopIllegal, 0)
	wantLen(t, "none", c, 1)
	s.Unmap(size, size)
	wantStop(t, "not mapped", c, s, size, api.StopFault, size)
	wantLen(t, "not mapped", c, 0)
}

func TestLenOfWhatIsNotOn(t *testing.T) {
	s := codeOf(t, 1)
	for name, c := range map[string]*Cache{"not on": New(false), "zero": {}, "nil": nil} {
		for n := range 100 {
			wantInst(t, name, c, s, uint64(2*n), addi(10, 1, 2))
			wantLen(t, name, c, 0)
		}
		c.Clear()
		wantLen(t, name, c, 0)
		wantInst(t, name, c, s, 0, addi(10, 1, 2))
		wantLen(t, name, c, 0)
	}
}

func TestLenAtMost(t *testing.T) {
	const most = 4096
	const pages = 6
	c := New(true)
	s := codeOf(t, pages)
	greatest := 0
	for range 2 {
		for addr := uint64(0); addr < pages*size; addr += 2 {
			wantInst(t, "code", c, s, addr, addi(10, 1, 2))
			greatest = max(greatest, c.Len())
		}
	}
	if greatest != most {
		t.Errorf("Len: %d, not %d", greatest, most)
	}
}

func TestFullCacheIsNotOld(t *testing.T) {
	const pages = 3
	c := New(true)
	s := codeOf(t, pages)
	for addr := uint64(0); addr < pages*size; addr += 2 {
		wantInst(t, "code", c, s, addr, addi(10, 1, 2))
	}
	for addr := uint64(0); addr < pages*size; addr += 2 {
		put(s, addr, 2, short2)
		wantInst(t, "code", c, s, addr, addi(10, 2, 2))
	}
}

// P10.2: Clear.

func TestClear(t *testing.T) {
	c := New(true)
	s := codeOf(t, 1)
	c.Clear()
	wantLen(t, "new", c, 0)
	for n := range 3 {
		wantInst(t, "code", c, s, 0, addi(10, 1, 2))
		wantInst(t, "code", c, s, 2, addi(10, 1, 2))
		wantLen(t, "code", c, 2)
		if n == 1 {
			put(s, 0, 2, short2)
			c.Clear()
			wantLen(t, "cleared", c, 0)
			wantInst(t, "code", c, s, 0, addi(10, 2, 2))
			put(s, 0, 2, short1)
		}
		c.Clear()
		wantLen(t, "cleared", c, 0)
	}
}

// A hit answers what is kept; else the cache were of no use, and no test of what is old told anything.
func TestHit(t *testing.T) {
	c := New(true)
	s := codeOf(t, 2)
	for _, pc := range []uint64{0, size - 2} {
		wantInst(t, "code", c, s, pc, addi(10, 1, 2))
		d := c.held[pc]
		d.what.Imm = 77
		c.held[pc] = d
		wantInst(t, "kept", c, s, pc, addi(10, 77, 2))
		put(s, size, 2, short1)
		wantInst(t, "another page written", c, s, pc, addi(10, 77, 2))
		put(s, 100, 2, short1)
		wantInst(t, "page written", c, s, pc, addi(10, 1, 2))
	}
}

// P10.1 and P10.2 together: caches of all sorts, asked by turns of spaces that are changed meanwhile, answer what a plain decoder does.

// trial is spaces that are changed, and the caches that are asked of them.
type trial struct {
	pick   *rand.Rand
	spaces []*mem.Space
	caches []*Cache
}

// place is an even place near a page's edge, where instructions over two pages are.
func (l *trial) place() uint64 {
	return uint64(1+l.pick.Intn(4))*size + uint64(2*(l.pick.Intn(7)-3))
}

func (l *trial) page() uint64 { return uint64(1+l.pick.Intn(4)) * size }

func (l *trial) change(n int) {
	s := l.spaces[n]
	words := []uint64{addi5, addi6, short1, short2, none16, none32, l.pick.Uint64()}
	word := words[l.pick.Intn(len(words))]
	switch l.pick.Intn(12) {
	case 0:
		s.Map(l.page(), l.page(), l.pick.Intn(8), true)
	case 1:
		s.Unmap(l.page(), size)
	case 2, 3:
		s.Protect(l.page(), size, l.pick.Intn(8))
	case 4:
		s.Protect(0, 5*size, all)
		s.Map(size, 4*size, all, true)
	case 5:
		s.Brk(l.place())
	case 6:
		l.spaces[n] = l.spaces[l.pick.Intn(len(l.spaces))].Copy()
	case 7:
		s.Out(l.place(), []byte{byte(word), byte(word >> 8)})
	case 8, 9:
		s.Store(l.place(), []int{1, 2, 4, 8}[l.pick.Intn(4)], word)
	default:
		put(s, l.place(), 4, word)
	}
}

func (l *trial) run(t *testing.T, steps int) (lens []int) {
	for range steps {
		l.change(l.pick.Intn(len(l.spaces)))
		for range 12 {
			s := l.spaces[l.pick.Intn(len(l.spaces))]
			pc := l.place() + uint64(l.pick.Intn(40)/39)
			for _, c := range l.caches {
				wantPlain(t, c, s, pc)
			}
		}
		if l.pick.Intn(200) == 0 {
			l.caches[0].Clear()
		}
		lens = append(lens, l.caches[0].Len())
	}
	return lens
}

func newTrial(seed int64) *trial {
	l := &trial{pick: rand.New(rand.NewSource(seed)), caches: []*Cache{New(true), New(true), New(false), {}, nil}}
	for range 3 {
		s := mem.New(8)
		s.Map(size, 4*size, all, true)
		s.SetBrk(2 * size)
		l.spaces = append(l.spaces, s)
	}
	return l
}

func TestNeverOld(t *testing.T) {
	for seed := range int64(20) {
		newTrial(seed).run(t, 2000)
	}
}

// The same calls, done again from the beginning, have the same answers (rule R5).
func TestSameAgain(t *testing.T) {
	one, again := newTrial(5).run(t, 3000), newTrial(5).run(t, 3000)
	for n := range one {
		if one[n] != again[n] {
			t.Fatalf("step %d: Len %d, then %d", n, one[n], again[n])
		}
	}
}

func TestLenSameAgain(t *testing.T) {
	s := codeOf(t, 6)
	run := func() (lens []int) {
		c := New(true)
		pick := rand.New(rand.NewSource(7))
		for range 20000 {
			c.Fetch(s, uint64(2*pick.Intn(6*size/2)))
			lens = append(lens, c.Len())
		}
		return lens
	}
	one, again := run(), run()
	for n := range one {
		if one[n] != again[n] {
			t.Fatalf("Fetch %d: Len %d, then %d", n, one[n], again[n])
		}
	}
}
