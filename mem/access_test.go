package mem

import (
	"math"
	"testing"

	"marionette/api"
)

// badWidths are no counts of bytes that a word is loaded or stored by.
var badWidths = []int{0, 3, 5, 6, 7, 9, 16, -1, -8, math.MinInt, math.MaxInt}

func wantFault(t *testing.T, name string, got api.Fault, kind int, addr uint64) {
	t.Helper()
	if want := (api.Fault{Kind: kind, Addr: addr}); got != want {
		t.Errorf("%s: fault %x, not %x", name, got, want)
	}
}

func wantLoad(t *testing.T, s *Space, addr uint64, n int, want uint64) {
	t.Helper()
	if got, f := s.Load(addr, n); got != want || f != (api.Fault{}) {
		t.Errorf("Load(%#x, %d): %#x %x, not %#x", addr, n, got, f, want)
	}
}

func wantFetch(t *testing.T, s *Space, addr uint64, want uint32) {
	t.Helper()
	if got, f := s.Fetch(addr); got != want || f != (api.Fault{}) {
		t.Errorf("Fetch(%#x): %#x %x, not %#x", addr, got, f, want)
	}
}

func wantNoFetch(t *testing.T, s *Space, addr, at uint64) {
	t.Helper()
	got, f := s.Fetch(addr)
	if got != 0 {
		t.Errorf("Fetch(%#x): %#x beside a fault", addr, got)
	}
	wantFault(t, "Fetch", f, api.FaultFetch, at)
}

// wantFaults asks for n places from addr on in every way, which must be refused because of the place at, and do nothing.
func wantFaults(t *testing.T, s *Space, addr uint64, n int, at uint64) {
	t.Helper()
	wantKept(t, s, "refused", func() {
		got, f := s.Load(addr, n)
		if got != 0 {
			t.Errorf("Load(%#x, %d): %#x beside a fault", addr, n, got)
		}
		wantFault(t, "Load", f, api.FaultLoad, at)
		wantFault(t, "Probe", s.Probe(addr, n), api.FaultStore, at)
		wantFault(t, "Store", s.Store(addr, n, end), api.FaultStore, at)
	}, 0, 1, 2, 3, top/size-1)
}

// P8.3: Load and Store.

func TestStoreThenLoad(t *testing.T) {
	number := uint64(0x8877665544332211)
	for _, c := range []struct {
		n    int
		want uint64
	}{{1, 0x11}, {2, 0x2211}, {4, 0x44332211}, {8, number}} {
		s := New(4)
		wantMap(t, s, size, 2*size, r|w, true, size, api.OK)
		for _, addr := range []uint64{size, size + 1, size + 1001, 2*size - 1, 2*size - uint64(c.n), 3*size - uint64(c.n)} {
			s.Put(size, make([]byte, 2*size))
			wantFault(t, "Store", s.Store(addr, c.n, number), 0, 0)
			wantLoad(t, s, addr, c.n, c.want)
			whole := make([]byte, 2*size)
			for i := range c.n {
				whole[addr-size+uint64(i)] = byte(number >> (8 * i))
			}
			wantPeek(t, s, size, whole)
		}
	}
}

func TestLoadOfParts(t *testing.T) {
	s := spaceOf(t, reg(1, 3, r))
	wantLoad(t, s, size, 8, 0x0807060504030201)
	wantLoad(t, s, size+2, 2, 0x0403)
	wantLoad(t, s, size+3, 4, 0x07060504)
	wantLoad(t, s, size+7, 1, 0x08)
	s.Put(2*size-1, []byte{0xff, 0xfe})
	wantLoad(t, s, 2*size-1, 2, 0xfeff)
}

func TestWrongWidths(t *testing.T) {
	s := spaceOf(t, reg(0, 3, 7))
	for _, n := range badWidths {
		for _, addr := range []uint64{size, size + 5, 0, 3*size - 1, top, end} {
			wantFaults(t, s, addr, n, addr)
		}
	}
}

func TestEveryProtOfLoadAndStore(t *testing.T) {
	for prot := range 8 {
		s := spaceOf(t, reg(1, 2, prot))
		for _, n := range []int{1, 2, 4, 8} {
			_, f := s.Load(size+16, n)
			if (f.Kind == 0) != (prot&r != 0) {
				t.Errorf("prot %d: Load: %x", prot, f)
			}
			probe := s.Probe(size+16, n)
			if f := s.Store(size+16, n, 1); f != probe || (f.Kind == 0) != (prot&w != 0) {
				t.Errorf("prot %d: Store: %x, Probe: %x", prot, f, probe)
			}
		}
	}
}

func TestFaultOfTheFirstPlace(t *testing.T) {
	s := spaceOf(t, reg(1, 2, r|w))
	for _, n := range []int{2, 4, 8} {
		wide := uint64(n)
		wantFaults(t, s, size-1, n, size-1)
		wantFaults(t, s, size-wide+1, n, size-wide+1)
		wantFaults(t, s, 2*size-1, n, 2*size)
		wantFaults(t, s, 2*size-wide+1, n, 2*size)
		wantFaults(t, s, 2*size, n, 2*size)
		wantFault(t, "Probe", s.Probe(2*size-wide, n), 0, 0)
	}
	wantFaults(t, s, 0, 1, 0)
	wantFaults(t, s, size-1, 1, size-1)
	wantFaults(t, s, 2*size, 1, 2*size)
}

func TestFaultOfAnotherRegion(t *testing.T) {
	s := spaceOf(t, reg(1, 2, r|w), reg(2, 3, r))
	if _, f := s.Load(2*size-4, 8); f.Kind != 0 {
		t.Errorf("Load over two regions: %x", f)
	}
	wantKept(t, s, "Store", func() {
		wantFault(t, "Store", s.Store(2*size-4, 8, end), api.FaultStore, 2*size)
		wantFault(t, "Probe", s.Probe(2*size-4, 8), api.FaultStore, 2*size)
	}, 1, 2)
	wantErr(t, "Protect", s.Protect(2*size, size, w), api.OK)
	_, f := s.Load(2*size-4, 8)
	wantFault(t, "Load", f, api.FaultLoad, 2*size)
	wantFault(t, "Store", s.Store(2*size-4, 8, end), 0, 0)
}

func TestFaultAtTop(t *testing.T) {
	s := spaceOf(t, reg(0, 1, 7), reg(top/size-1, top/size, 7))
	wantFaults(t, s, top-1, 2, top)
	wantFaults(t, s, top-7, 8, top)
	wantFault(t, "Store", s.Store(top-8, 8, 5), 0, 0)
	wantLoad(t, s, top-8, 8, 5)
	for _, addr := range []uint64{top, top + 1, top + size, 1 << 63, end - 7, end - 3, end - 1, end} {
		for _, n := range []int{1, 2, 4, 8} {
			wantFaults(t, s, addr, n, addr)
		}
	}
}

func TestProbeDoesNothing(t *testing.T) {
	s := spaceOf(t, reg(1, 3, r|w))
	wantKept(t, s, "Probe", func() {
		for _, n := range []int{1, 2, 4, 8} {
			wantFault(t, "Probe", s.Probe(2*size-1, n), 0, 0)
		}
	}, 1, 2)
}

// P8.3: Fetch.

func TestFetch(t *testing.T) {
	s := spaceOf(t, reg(1, 3, x))
	cases := []struct {
		b    []byte
		want uint32
	}{
		{[]byte{0x00, 0x12, 0x34, 0x56}, 0x1200},
		{[]byte{0x01, 0x45, 0xff, 0xff}, 0x4501},
		{[]byte{0x02, 0xff, 0x34, 0x56}, 0xff02},
		{[]byte{0xfe, 0xff, 0xff, 0xff}, 0xfffe},
		{[]byte{0x03, 0x00, 0x00, 0x00}, 0x00000003},
		{[]byte{0x93, 0x00, 0x50, 0x00}, 0x00500093},
		{[]byte{0xff, 0xff, 0xff, 0xff}, 0xffffffff},
		{[]byte{0x07, 0x21, 0x43, 0x85}, 0x85432107},
	}
	for _, c := range cases {
		for _, addr := range []uint64{size, size + 2, size + 4, 2*size - 2, 3*size - 4} {
			s.Put(addr, c.b)
			wantFetch(t, s, addr, c.want)
		}
	}
}

func TestFetchOfOdd(t *testing.T) {
	s := spaceOf(t, reg(1, 3, 7))
	for _, addr := range []uint64{1, size - 1, size + 1, 2*size - 1, 3*size - 1, top - 1, top + 1, end} {
		wantNoFetch(t, s, addr, addr)
	}
}

func TestEveryProtOfFetch(t *testing.T) {
	for prot := range 8 {
		s := spaceOf(t, reg(1, 2, prot))
		if prot&x != 0 {
			wantFetch(t, s, size, 0x0201)
		} else {
			wantNoFetch(t, s, size, size)
		}
	}
}

func TestFetchOverPages(t *testing.T) {
	short, long := []byte{0x01, 0x45}, []byte{0x13, 0x05}
	for _, behind := range []uint64{2 * size, top} {
		s := spaceOf(t, reg(behind/size-1, behind/size, r|x))
		s.Put(behind-2, short)
		wantFetch(t, s, behind-2, 0x4501)
		s.Put(behind-2, long)
		wantNoFetch(t, s, behind-2, behind)
		s.Put(behind-4, long)
		wantFetch(t, s, behind-4, 0x05130513)
	}
	s := spaceOf(t, reg(1, 2, r|x), reg(2, 3, r|w))
	s.Put(2*size-2, long)
	wantNoFetch(t, s, 2*size-2, 2*size)
	wantErr(t, "Protect", s.Protect(2*size, size, x), api.OK)
	wantFetch(t, s, 2*size-2, 0x02010513)
}

func TestFetchOfWhatIsNotMapped(t *testing.T) {
	s := spaceOf(t, reg(0, 1, 7), reg(4, 5, 7))
	for _, addr := range []uint64{size, 4*size - 2, 5 * size, top - 2, top, 1 << 63, end - 1, end - 3} {
		wantNoFetch(t, s, addr, addr)
	}
}
