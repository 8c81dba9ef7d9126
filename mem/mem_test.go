package mem

import (
	"bytes"
	"math"
	"slices"
	"testing"

	"marionette/api"
)

const (
	size   = uint64(api.PageSize)
	top    = uint64(api.Top)
	mapTop = uint64(api.MapTop)
	end    = uint64(math.MaxUint64)
	r      = api.ProtR
	w      = api.ProtW
	x      = api.ProtX
)

// full is n bytes, none of them 0.
func full(n int) []byte {
	b := make([]byte, n)
	for i := range b {
		b[i] = byte(i%251 + 1)
	}
	return b
}

// reg is the region of the pages from from up to to.
func reg(from, to uint64, prot int) api.Region {
	return api.Region{Start: from * size, End: to * size, Prot: prot}
}

// spaceOf is a space of many pages with these mapped, all their bytes not 0.
func spaceOf(t *testing.T, regions ...api.Region) *Space {
	t.Helper()
	s := New(1000)
	for _, one := range regions {
		wantMap(t, s, one.Start, one.End-one.Start, one.Prot, true, one.Start, api.OK)
		s.Put(one.Start, full(int(one.End-one.Start)))
	}
	return s
}

// crowd is a space of MaxRegions regions, of two pages each with two between: 2 to 4, 6 to 8, and so on.
func crowd(t *testing.T) *Space {
	t.Helper()
	s := New(1000)
	for i := range uint64(api.MaxRegions) {
		wantMap(t, s, (4*i+2)*size, 2*size, r, true, (4*i+2)*size, api.OK)
	}
	return s
}

func wantMap(t *testing.T, s *Space, addr, n uint64, prot int, fixed bool, want uint64, wantErr api.Errno) {
	t.Helper()
	if at, e := s.Map(addr, n, prot, fixed); at != want || e != wantErr {
		t.Errorf("Map(%#x, %#x, %d, %v): %#x %d, not %#x %d", addr, n, prot, fixed, at, e, want, wantErr)
	}
}

func wantErr(t *testing.T, name string, got, want api.Errno) {
	t.Helper()
	if got != want {
		t.Errorf("%s: %d, not %d", name, got, want)
	}
}

func wantRegions(t *testing.T, s *Space, want ...api.Region) {
	t.Helper()
	if got := s.Regions(); !slices.Equal(got, want) {
		t.Errorf("regions %x, not %x", got, want)
	}
	pages := 0
	for _, one := range want {
		pages += int((one.End - one.Start) / size)
	}
	if got := s.Pages(); got != pages {
		t.Errorf("%d pages, not %d", got, pages)
	}
}

func wantPeek(t *testing.T, s *Space, addr uint64, want []byte) {
	t.Helper()
	if got := s.Peek(addr, len(want)); !bytes.Equal(got, want) {
		t.Errorf("Peek(%#x, %d): %v, not %v", addr, len(want), got[:min(len(got), 24)], want[:min(len(want), 24)])
	}
}

func wantBrk(t *testing.T, s *Space, n, want uint64) {
	t.Helper()
	if got := s.Brk(n); got != want {
		t.Errorf("Brk(%#x): %#x, not %#x", n, got, want)
	}
}

// wantKept does something that is refused, or only asks, and holds regions, stamps and bytes of the pages against those before.
func wantKept(t *testing.T, s *Space, name string, do func(), pages ...uint64) {
	t.Helper()
	was := s.Regions()
	var stamps []uint64
	var held [][]byte
	for _, p := range pages {
		stamps = append(stamps, s.Stamp(p))
		held = append(held, s.Peek(p*size, int(size)))
	}
	do()
	if got := s.Regions(); !slices.Equal(got, was) {
		t.Errorf("%s: regions %x, not %x", name, got, was)
	}
	for i, p := range pages {
		if s.Stamp(p) != stamps[i] {
			t.Errorf("%s: page %d has another stamp", name, p)
		}
		if !bytes.Equal(s.Peek(p*size, int(size)), held[i]) {
			t.Errorf("%s: page %d has other bytes", name, p)
		}
	}
}

// P8.1: how many pages may be mapped.

func TestNewIsEmpty(t *testing.T) {
	for _, s := range []*Space{New(0), New(-1), New(math.MinInt), New(5), New(math.MaxInt), {}} {
		wantRegions(t, s)
		wantBrk(t, s, 0, 0)
		wantPeek(t, s, 0, make([]byte, 9))
		wantPeek(t, s, top-4, make([]byte, 9))
	}
}

func TestNoPages(t *testing.T) {
	for _, s := range []*Space{New(0), New(-1), New(math.MinInt), {}} {
		wantMap(t, s, 0, 1, r, false, 0, api.ENOMEM)
		wantMap(t, s, size, 1, r, true, 0, api.ENOMEM)
		wantBrk(t, s, 1, 0)
		wantRegions(t, s)
	}
}

func TestMostPages(t *testing.T) {
	s := New(3)
	wantMap(t, s, size, 4*size, r, true, 0, api.ENOMEM)
	wantMap(t, s, size, 3*size+1, r, false, 0, api.ENOMEM)
	wantMap(t, s, size, 2*size, r, true, size, api.OK)
	wantMap(t, s, 8*size, 2*size, r, true, 0, api.ENOMEM)
	wantMap(t, s, 8*size, 1, r, true, 8*size, api.OK)
	wantMap(t, s, 0, 1, r, false, 0, api.ENOMEM)
	wantRegions(t, s, reg(1, 3, r), reg(8, 9, r))
	wantErr(t, "Unmap", s.Unmap(size, size), api.OK)
	wantMap(t, s, 0, 1, r, false, mapTop-size, api.OK)
}

func TestReplacedPagesCountOnce(t *testing.T) {
	s := New(4)
	wantMap(t, s, size, 4*size, r, true, size, api.OK)
	wantMap(t, s, size, 4*size, w, true, size, api.OK)
	wantMap(t, s, 2*size, 2*size, x, true, 2*size, api.OK)
	wantRegions(t, s, reg(1, 2, w), reg(2, 4, x), reg(4, 5, w))
	wantMap(t, s, 4*size, 2*size, r, true, 0, api.ENOMEM)
	wantMap(t, s, 0, 2*size, r, true, 0, api.ENOMEM)
	wantRegions(t, s, reg(1, 2, w), reg(2, 4, x), reg(4, 5, w))
}

func TestAllPages(t *testing.T) {
	s := New(math.MaxInt)
	wantMap(t, s, 0, top, r|w, true, 0, api.OK)
	wantRegions(t, s, reg(0, top/size, r|w))
	s.Put(top-1, []byte{7})
	wantMap(t, s, 0, top-1, r, true, 0, api.OK)
	wantPeek(t, s, top-1, []byte{0})
	s = New(api.Top/api.PageSize - 1)
	wantMap(t, s, 0, top, r|w, true, 0, api.ENOMEM)
	wantMap(t, s, 0, top-size, r|w, true, 0, api.OK)
}

// P8.1: Map.

func TestMapRefuses(t *testing.T) {
	s := spaceOf(t, reg(1, 3, r|w))
	cases := []struct {
		addr, n uint64
		prot    int
	}{
		{1, size, r}, {size - 1, size, r}, {size + 8, size, r}, {end, size, r}, {top + 1, size, r},
		{size, 0, r}, {0, 0, r}, {size, top + 1, r}, {0, top + 1, r}, {0, top + size, r}, {size, end, r}, {0, end - size + 1, r}, {0, 1 << 63, r},
		{size, size, -1}, {size, size, 8}, {size, size, 15}, {size, size, math.MinInt}, {size, size, math.MaxInt}, {0, size, 1 << 32},
	}
	wantKept(t, s, "Map", func() {
		for _, c := range cases {
			wantMap(t, s, c.addr, c.n, c.prot, true, 0, api.EINVAL)
			wantMap(t, s, c.addr, c.n, c.prot, false, 0, api.EINVAL)
		}
	}, 0, 1, 2, 3)
}

func TestMapErrorsInOrder(t *testing.T) {
	s := New(0)
	wantMap(t, s, 1, size, r, false, 0, api.EINVAL)
	wantMap(t, s, 0, 0, r, false, 0, api.EINVAL)
	for _, prot := range []int{-1, 8} {
		wantMap(t, s, 0, top, prot, false, 0, api.EINVAL)
		wantMap(t, s, 0, top, prot, true, 0, api.EINVAL)
	}
	wantMap(t, s, top, size, r, true, 0, api.EINVAL)
	wantMap(t, s, 0, top, r, false, 0, api.ENOMEM)
	wantMap(t, s, 0, top, r, true, 0, api.ENOMEM)
}

func TestFixedMustBeASpan(t *testing.T) {
	s := New(100)
	for _, c := range [][2]uint64{
		{top, 1}, {top, size}, {top - size, size + 1}, {top - size, 2 * size}, {size, top}, {top + size, size},
		{end - size + 1, size}, {end - size + 1, 2 * size}, {1 << 63, size}, {end - 2*size + 1, 4 * size},
	} {
		wantMap(t, s, c[0], c[1], r, true, 0, api.EINVAL)
	}
	wantRegions(t, s)
	wantMap(t, s, top-size, 1, r, true, top-size, api.OK)
	wantMap(t, s, 0, 1, r, true, 0, api.OK)
	wantRegions(t, s, reg(0, 1, r), reg(top/size-1, top/size, r))
}

func TestFixedReplaces(t *testing.T) {
	s := spaceOf(t, reg(1, 5, r|w))
	was := []uint64{s.Stamp(1), s.Stamp(2), s.Stamp(3), s.Stamp(4)}
	wantMap(t, s, 2*size, size+1, x, true, 2*size, api.OK)
	wantRegions(t, s, reg(1, 2, r|w), reg(2, 4, x), reg(4, 5, r|w))
	want := full(int(4 * size))
	clear(want[size : 3*size])
	wantPeek(t, s, size, want)
	for i, greater := range []bool{false, true, true, false} {
		if got := s.Stamp(uint64(i + 1)); got < was[i] || got > was[i] != greater {
			t.Errorf("page %d: stamp %d behind %d", i+1, got, was[i])
		}
	}
}

func TestMapRoundsUp(t *testing.T) {
	for _, c := range []struct{ n, pages uint64 }{{1, 1}, {size - 1, 1}, {size, 1}, {size + 1, 2}, {5000, 2}, {2 * size, 2}} {
		s := New(10)
		wantMap(t, s, 3*size, c.n, r, true, 3*size, api.OK)
		wantRegions(t, s, reg(3, 3+c.pages, r))
		s = New(10)
		wantMap(t, s, 0, c.n, r, false, mapTop-c.pages*size, api.OK)
		wantRegions(t, s, reg(mapTop/size-c.pages, mapTop/size, r))
	}
}

func TestEveryProt(t *testing.T) {
	for prot := range 8 {
		s := New(10)
		wantMap(t, s, 0, size, prot, false, mapTop-size, api.OK)
		wantMap(t, s, size, size, prot, true, size, api.OK)
		wantRegions(t, s, reg(1, 2, prot), reg(mapTop/size-1, mapTop/size, prot))
	}
}

func TestMapWhereItIsWished(t *testing.T) {
	s := spaceOf(t, reg(4, 6, r))
	last := mapTop / size
	wantMap(t, s, size, 3*size, w, false, size, api.OK)
	wantMap(t, s, 6*size, 1, w, false, 6*size, api.OK)
	wantMap(t, s, top-size, size, w, false, top-size, api.OK)
	wantMap(t, s, mapTop+size, size, w, false, mapTop+size, api.OK)
	wantRegions(t, s, reg(1, 4, w), reg(4, 6, r), reg(6, 7, w), reg(last+1, last+2, w), reg(top/size-1, top/size, w))
}

func TestMapWhereThereIsRoom(t *testing.T) {
	last := mapTop / size
	for _, addr := range []uint64{
		0,                            // no wish
		4 * size, 5 * size, 3 * size, // not free
		top, top - size, end - size + 1, // no span of two pages
		1 << 63, end - 2*size + 1, top + size, // nor there
	} {
		s := spaceOf(t, reg(4, 6, r))
		wantMap(t, s, addr, 2*size, w, false, mapTop-2*size, api.OK)
		wantRegions(t, s, reg(4, 6, r), reg(last-2, last, w))
	}
}

func TestMapBelowWhatIsThere(t *testing.T) {
	s := New(100)
	wantMap(t, s, 0, 3*size, r, false, mapTop-3*size, api.OK)
	wantMap(t, s, 0, 2*size, w, false, mapTop-5*size, api.OK)
	wantErr(t, "Unmap", s.Unmap(mapTop-2*size, size), api.OK)
	wantMap(t, s, 0, 2*size, w, false, mapTop-7*size, api.OK)
	wantMap(t, s, 0, 1, x, false, mapTop-2*size, api.OK)
}

func TestNoRoom(t *testing.T) {
	s := New(math.MaxInt)
	wantMap(t, s, 0, mapTop, r, false, 0, api.ENOMEM)
	wantMap(t, s, 0, mapTop-size+1, r, false, 0, api.ENOMEM)
	wantMap(t, s, size, top-size, r, false, size, api.OK)
	wantMap(t, s, 0, 1, r, false, 0, api.ENOMEM)
	wantMap(t, s, size, 1, r, false, 0, api.ENOMEM)
	wantMap(t, s, 0, 0, r, false, 0, api.EINVAL)
	wantRegions(t, s, reg(1, top/size, r))
	wantErr(t, "Unmap", s.Unmap(0, top), api.OK)
	wantMap(t, s, 0, mapTop-size, r, false, size, api.OK)
}

func TestMapOfTooManyRegions(t *testing.T) {
	s := crowd(t)
	s.Put(2*size, full(100))
	wantKept(t, s, "Map", func() {
		wantMap(t, s, 0, size, r, true, 0, api.ENOMEM)
		wantMap(t, s, 0, size, r, false, 0, api.ENOMEM)
		wantMap(t, s, 2*size, size, w, true, 0, api.ENOMEM)
	}, 0, 1, 2, 3, mapTop/size-1)
	wantMap(t, s, 2*size, 2*size, w, true, 2*size, api.OK)
	wantMap(t, s, 4*size, size, w, false, 4*size, api.OK)
	wantPeek(t, s, 2*size, make([]byte, 100))
}

func TestMappedBytesAreNoughts(t *testing.T) {
	s := spaceOf(t, reg(1, 3, r|w))
	wantErr(t, "Unmap", s.Unmap(size, 2*size), api.OK)
	wantPeek(t, s, size, make([]byte, 2*size))
	wantMap(t, s, size, 2*size, r|w, false, size, api.OK)
	wantPeek(t, s, size, make([]byte, 2*size))
}

// P8.1: Unmap and Protect.

func TestUnmapAndProtectOfNoSpan(t *testing.T) {
	s := spaceOf(t, reg(0, 3, r|w), reg(top/size-1, top/size, r|w))
	spans := [][2]uint64{
		{1, size}, {size - 1, size}, {size - 1, 1}, {size + 8, 8}, {end, 1}, {end, size}, {top - 1, 1},
		{0, 0}, {size, 0}, {top, 0}, {top, 1}, {top - size, size + 1}, {0, top + 1}, {size, top},
		{0, end}, {size, end}, {0, end - size + 1}, {size, end - size + 1}, {0, end - size + 2}, {size, end - size + 2}, {2 * size, end - size + 1},
		{end - size + 1, size}, {end - size + 1, 2 * size}, {1 << 63, 1 << 63}, {1 << 63, 1<<63 + size},
	}
	wantKept(t, s, "no span", func() {
		for _, c := range spans {
			wantErr(t, "Unmap", s.Unmap(c[0], c[1]), api.EINVAL)
			wantErr(t, "Protect", s.Protect(c[0], c[1], r), api.EINVAL)
		}
	}, 0, 1, 2, 3, top/size-1)
}

func TestUnmap(t *testing.T) {
	for _, n := range []uint64{size + 1, 2*size - 1, 2 * size} {
		s := spaceOf(t, reg(1, 5, r))
		wantErr(t, "Unmap", s.Unmap(2*size, n), api.OK)
		wantRegions(t, s, reg(1, 2, r), reg(4, 5, r))
		want := full(int(4 * size))
		clear(want[size : 3*size])
		wantPeek(t, s, size, want)
	}
}

func TestUnmapOfWhatIsNotMapped(t *testing.T) {
	s := spaceOf(t, reg(4, 6, r))
	wantErr(t, "Unmap", s.Unmap(0, 4*size), api.OK)
	wantErr(t, "Unmap", s.Unmap(top-size, size), api.OK)
	wantRegions(t, s, reg(4, 6, r))
	wantErr(t, "Unmap", s.Unmap(0, top), api.OK)
	wantRegions(t, s)
	wantPeek(t, s, 4*size, make([]byte, 2*size))
}

func TestUnmapOfTooManyRegions(t *testing.T) {
	s := New(1000)
	for i := range uint64(api.MaxRegions) {
		wantMap(t, s, 4*i*size, 3*size, r, true, 4*i*size, api.OK)
	}
	s.Put(0, full(int(3*size)))
	wantKept(t, s, "Unmap", func() { wantErr(t, "Unmap", s.Unmap(size, size), api.ENOMEM) }, 0, 1, 2)
	wantKept(t, s, "Protect", func() { wantErr(t, "Protect", s.Protect(0, size, w), api.ENOMEM) }, 0, 1, 2)
	wantErr(t, "Unmap", s.Unmap(0, size), api.OK)
	wantPeek(t, s, 0, append(make([]byte, size), full(int(3 * size))[size:]...))
}

func TestProtect(t *testing.T) {
	for _, n := range []uint64{size + 1, 2*size - 1, 2 * size} {
		s := spaceOf(t, reg(1, 5, r|w))
		wantErr(t, "Protect", s.Protect(2*size, n, x), api.OK)
		wantRegions(t, s, reg(1, 2, r|w), reg(2, 4, x), reg(4, 5, r|w))
		wantPeek(t, s, size, full(int(4*size)))
	}
}

func TestProtectOfAHole(t *testing.T) {
	s := spaceOf(t, reg(1, 2, r), reg(3, 4, r))
	wantKept(t, s, "Protect", func() {
		wantErr(t, "Protect", s.Protect(size, 3*size, w), api.ENOMEM)
		wantErr(t, "Protect", s.Protect(size, size+1, w), api.ENOMEM)
		wantErr(t, "Protect", s.Protect(0, size, w), api.ENOMEM)
		for _, prot := range []int{-1, 8, math.MinInt, math.MaxInt} {
			wantErr(t, "Protect", s.Protect(size, size, prot), api.EINVAL)
			wantErr(t, "Protect", s.Protect(0, size, prot), api.EINVAL)
		}
	}, 0, 1, 2, 3, 4)
}

// P8.2: the heap.

func TestBrkGrowsAndShrinks(t *testing.T) {
	s := New(100)
	s.SetBrk(5000)
	wantBrk(t, s, 0, 2*size)
	wantRegions(t, s)
	wantBrk(t, s, 2*size+1, 2*size+1)
	wantRegions(t, s, reg(2, 3, r|w))
	wantBrk(t, s, 3*size, 3*size)
	wantRegions(t, s, reg(2, 3, r|w))
	wantBrk(t, s, 3*size+1, 3*size+1)
	wantRegions(t, s, reg(2, 4, r|w))
	wantBrk(t, s, 10*size, 10*size)
	wantRegions(t, s, reg(2, 10, r|w))
	wantPeek(t, s, 2*size, make([]byte, 8*size))
	s.Put(2*size, full(int(8*size)))
	wantBrk(t, s, 5*size+7, 5*size+7)
	wantRegions(t, s, reg(2, 6, r|w))
	wantBrk(t, s, 5*size, 5*size)
	wantRegions(t, s, reg(2, 5, r|w))
	want := full(int(8 * size))
	clear(want[3*size:])
	wantPeek(t, s, 2*size, want)
	wantBrk(t, s, 6*size, 6*size)
	wantPeek(t, s, 2*size, want)
	wantBrk(t, s, 2*size, 2*size)
	wantRegions(t, s)
	wantPeek(t, s, 2*size, make([]byte, 8*size))
}

func TestBrkKeepsItsLastPage(t *testing.T) {
	s := New(100)
	s.SetBrk(size)
	wantBrk(t, s, 2*size-1, 2*size-1)
	s.Put(size, full(int(size)))
	wantBrk(t, s, size+1, size+1)
	wantBrk(t, s, 2*size, 2*size)
	wantPeek(t, s, size, full(int(size)))
}

func TestBrkAheadOfSetBrk(t *testing.T) {
	s := New(100)
	wantBrk(t, s, 0, 0)
	wantBrk(t, s, 1, 1)
	wantRegions(t, s, reg(0, 1, r|w))
	wantBrk(t, s, 2*size, 2*size)
	wantRegions(t, s, reg(0, 2, r|w))
	wantBrk(t, s, 0, 0)
	wantRegions(t, s)
}

func TestSetBrk(t *testing.T) {
	for _, c := range []struct{ base, want uint64 }{
		{0, 0}, {1, size}, {size - 1, size}, {size, size}, {size + 1, 2 * size}, {5000, 2 * size},
		{top - size, top - size}, {top - size + 1, top}, {top - 1, top}, {top, top},
	} {
		s := New(100)
		s.SetBrk(c.base)
		wantBrk(t, s, 0, c.want)
		wantRegions(t, s)
	}
	for _, base := range []uint64{top + 1, top + size, 1 << 63, end - size + 1, end} {
		s := New(100)
		s.SetBrk(3 * size)
		wantBrk(t, s, 4*size, 4*size)
		s.SetBrk(base)
		wantBrk(t, s, 0, 4*size)
		wantBrk(t, s, 3*size, 3*size)
	}
}

func TestSetBrkAgain(t *testing.T) {
	s := New(100)
	s.SetBrk(3 * size)
	wantBrk(t, s, 5*size, 5*size)
	s.SetBrk(8 * size)
	wantBrk(t, s, 4*size, 8*size)
	wantRegions(t, s, reg(3, 5, r|w))
	wantBrk(t, s, 9*size, 9*size)
	wantBrk(t, s, 8*size, 8*size)
	wantRegions(t, s, reg(3, 5, r|w))
	s.SetBrk(2 * size)
	wantBrk(t, s, 3*size, 3*size)
	wantBrk(t, s, 3*size+1, 3*size)
}

func TestBrkOutside(t *testing.T) {
	s := New(100)
	s.SetBrk(3 * size)
	wantBrk(t, s, 5*size+9, 5*size+9)
	wantKept(t, s, "Brk", func() {
		for _, n := range []uint64{0, 1, 3*size - 1, 2 * size, top + 1, top + size, 1 << 63, end, end - size} {
			wantBrk(t, s, n, 5*size+9)
		}
	}, 2, 3, 4, 5, 6)
}

func TestBrkAtTop(t *testing.T) {
	s := New(2)
	s.SetBrk(top - 2*size)
	wantBrk(t, s, top, top)
	wantRegions(t, s, reg(top/size-2, top/size, r|w))
	wantBrk(t, s, top+1, top)
	wantBrk(t, s, top-1, top-1)
	wantRegions(t, s, reg(top/size-2, top/size, r|w))
	s.SetBrk(top)
	wantBrk(t, s, top, top)
	wantBrk(t, s, top-1, top)
}

func TestBrkAgainstWhatIsMapped(t *testing.T) {
	s := spaceOf(t, reg(6, 7, 0))
	s.SetBrk(3 * size)
	wantBrk(t, s, 5*size, 5*size)
	wantKept(t, s, "Brk", func() {
		wantBrk(t, s, 6*size+1, 5*size)
		wantBrk(t, s, 7*size, 5*size)
		wantBrk(t, s, 9*size, 5*size)
	}, 4, 5, 6, 7)
	wantBrk(t, s, 6*size, 6*size)
	wantBrk(t, s, 6*size+1, 6*size)
}

func TestBrkOfTooManyPages(t *testing.T) {
	s := New(4)
	s.SetBrk(3 * size)
	wantBrk(t, s, 7*size+1, 3*size)
	wantBrk(t, s, top, 3*size)
	wantBrk(t, s, 6*size+1, 6*size+1)
	wantBrk(t, s, 7*size, 7*size)
	wantBrk(t, s, 7*size+1, 7*size)
	wantRegions(t, s, reg(3, 7, r|w))
	wantMap(t, s, 0, 1, r, false, 0, api.ENOMEM)
	wantBrk(t, s, 6*size, 6*size)
	wantMap(t, s, 0, 1, r, false, mapTop-size, api.OK)
}

func TestBrkOfTooManyRegions(t *testing.T) {
	s := crowd(t)
	s.SetBrk(4 * size)
	wantKept(t, s, "Brk", func() { wantBrk(t, s, 4*size+1, 4*size) }, 3, 4, 5)
	wantErr(t, "Unmap", s.Unmap(6*size, 2*size), api.OK)
	wantBrk(t, s, 5*size, 5*size)

	// Two regions and the heap between them are one; without the heap there would be one more.
	s = New(2000)
	for i := range uint64(api.MaxRegions) {
		wantMap(t, s, 4*i*size, size, r|w, true, 4*i*size, api.OK)
	}
	s.SetBrk(size)
	wantBrk(t, s, 4*size, 4*size)
	wantMap(t, s, 2000*size, 1, r, true, 2000*size, api.OK)
	wantKept(t, s, "Brk", func() {
		wantBrk(t, s, size, 4*size)
		wantBrk(t, s, 3*size, 4*size)
	}, 0, 1, 2, 3, 4)
}

func TestBrkOverHolesInTheHeap(t *testing.T) {
	s := New(100)
	s.SetBrk(size)
	wantBrk(t, s, 5*size, 5*size)
	wantErr(t, "Unmap", s.Unmap(4*size, size), api.OK)
	wantBrk(t, s, 6*size, 6*size)
	wantRegions(t, s, reg(1, 4, r|w), reg(5, 6, r|w))
	wantErr(t, "Protect", s.Protect(2*size, size, r), api.OK)
	wantBrk(t, s, 2*size, 2*size)
	wantRegions(t, s, reg(1, 2, r|w))
}
