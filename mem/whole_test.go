package mem

import (
	"testing"

	"marionette/api"
)

// P8.5: stamps.

func TestStampsOfChanges(t *testing.T) {
	cases := []struct {
		name    string
		do      func(s *Space)
		greater []uint64
		same    []uint64
	}{
		{"Map", func(s *Space) { s.Map(8*size, 2*size, r, true) }, []uint64{8, 9}, []uint64{1, 2, 3, 7, 10}},
		{"Map over", func(s *Space) { s.Map(2*size, size, r, true) }, []uint64{2}, []uint64{1, 3}},
		{"Map found", func(s *Space) { s.Map(0, size, r, false) }, []uint64{mapTop/size - 1}, []uint64{1, 2, 3}},
		{"Unmap", func(s *Space) { s.Unmap(2*size, 1) }, []uint64{2}, []uint64{1, 3}},
		{"Unmap of all", func(s *Space) { s.Unmap(0, top) }, []uint64{1, 2, 3}, nil},
		{"Protect", func(s *Space) { s.Protect(size, size+1, x) }, []uint64{1, 2}, []uint64{0, 3}},
		{"Brk up", func(s *Space) { s.Brk(22 * size) }, []uint64{21}, []uint64{1, 19, 20, 22}},
		{"Brk down", func(s *Space) { s.Brk(20 * size) }, []uint64{20}, []uint64{1, 19, 21}},
		{"Store", func(s *Space) { s.Store(2*size, 1, 7) }, []uint64{2}, []uint64{1, 3}},
		{"Store over pages", func(s *Space) { s.Store(2*size-1, 2, 7) }, []uint64{1, 2}, []uint64{0, 3}},
		{"Out", func(s *Space) { s.Out(2*size-1, []byte{7, 8}) }, []uint64{1, 2}, []uint64{0, 3}},
		{"Put", func(s *Space) { s.Put(3*size, []byte{7}) }, []uint64{3}, []uint64{1, 2, 4}},
	}
	for _, c := range cases {
		s := spaceOf(t, reg(1, 4, r|w))
		s.SetBrk(20 * size)
		wantBrk(t, s, 21*size, 21*size)
		was := map[uint64]uint64{}
		for p := range uint64(30) {
			was[p] = s.Stamp(p)
		}
		was[mapTop/size-1] = s.Stamp(mapTop/size - 1)
		c.do(s)
		for _, p := range c.greater {
			if s.Stamp(p) <= was[p] {
				t.Errorf("%s: page %d: stamp %d behind %d", c.name, p, s.Stamp(p), was[p])
			}
		}
		for _, p := range c.same {
			if s.Stamp(p) != was[p] {
				t.Errorf("%s: page %d: stamp %d behind %d, not the same", c.name, p, s.Stamp(p), was[p])
			}
		}
	}
}

func TestStampsOfAsking(t *testing.T) {
	s := spaceOf(t, reg(1, 4, 7))
	s.SetBrk(20 * size)
	wantBrk(t, s, 21*size, 21*size)
	wantKept(t, s, "asking", func() {
		s.Load(size, 8)
		s.Load(0, 8)
		s.Probe(size, 8)
		s.Fetch(size)
		s.Fetch(0)
		s.Check(size, 3*api.PageSize, 7)
		s.In(size, 3*api.PageSize)
		s.Text(size, 100)
		s.Peek(0, 30*api.PageSize)
		s.Regions()
		s.Pages()
		s.Stamp(1)
		s.Brk(0)
		s.Copy()
		s.Out(size, nil)
		s.Put(size, nil)
	}, 0, 1, 2, 3, 4, 19, 20, 21)
}

func TestStampsRise(t *testing.T) {
	s := New(100)
	last := s.Stamp(5)
	for i := range 30 {
		switch i % 6 {
		case 0:
			s.Map(5*size, size, r|w, true)
		case 1:
			s.Store(5*size, 4, uint64(i))
		case 2:
			s.Protect(5*size, size, r)
		case 3:
			s.Put(5*size, []byte{1})
		case 4:
			s.Unmap(0, top)
		case 5:
			s.Map(5*size, size, x, false)
		}
		if now := s.Stamp(5); now <= last {
			t.Fatalf("step %d: stamp %d behind %d", i, now, last)
		}
		last = s.Stamp(5)
	}
}

// P8.5: Copy.

func TestCopyIsOfItsOwn(t *testing.T) {
	s := New(6)
	s.SetBrk(20 * size)
	wantBrk(t, s, 21*size, 21*size)
	wantMap(t, s, size, 3*size, r|w, true, size, api.OK)
	s.Put(size, full(50))
	twin := s.Copy()
	for p := range uint64(30) {
		if twin.Stamp(p) != s.Stamp(p) {
			t.Errorf("page %d: stamp %d of the copy, not %d", p, twin.Stamp(p), s.Stamp(p))
		}
	}
	wantRegions(t, twin, reg(1, 4, r|w), reg(20, 21, r|w))
	wantPeek(t, twin, size, full(50))
	wantBrk(t, twin, 0, 21*size)
	wantBrk(t, twin, 20*size, 20*size)

	wantKept(t, s, "a copy's change", func() {
		twin.Store(size, 8, 0)
		twin.Protect(2*size, size, x)
		twin.Unmap(3*size, size)
		twin.Map(8*size, size, r, true)
		twin.Brk(22 * size)
	}, 1, 2, 3, 8, 20, 21)
	wantBrk(t, s, 0, 21*size)
	wantRegions(t, twin, reg(1, 2, r|w), reg(2, 3, x), reg(8, 9, r), reg(20, 22, r|w))
	wantKept(t, twin, "a change of what was copied", func() {
		s.Put(size, full(200))
		s.Unmap(0, top)
		s.SetBrk(0)
	}, 1, 2, 3, 8, 20, 21)
	wantBrk(t, twin, 0, 22*size)
	// As many pages may be mapped as of what was copied.
	wantMap(t, twin, 0, size, r, false, mapTop-size, api.OK)
	wantMap(t, twin, 0, size, r, false, 0, api.ENOMEM)
}

// P8.5: no space.

func TestNoSpace(t *testing.T) {
	var s *Space
	for _, addr := range []uint64{0, 1, size, top, end} {
		for _, fixed := range []bool{false, true} {
			wantMap(t, s, addr, size, r, fixed, 0, api.EINVAL)
		}
		wantErr(t, "Unmap", s.Unmap(addr, size), api.EINVAL)
		wantErr(t, "Protect", s.Protect(addr, size, r), api.EINVAL)
		s.SetBrk(addr)
		wantBrk(t, s, addr, 0)
		for _, n := range append([]int{1, 2, 4, 8}, badWidths...) {
			wantNoSpaceAt(t, addr, n)
		}
		wantNoFetch(t, s, addr, addr)
		wantErr(t, "Out", s.Out(addr, nil), api.EFAULT)
		wantErr(t, "Out", s.Out(addr, []byte{1}), api.EFAULT)
		wantErr(t, "Out", s.Out(addr, make([]byte, api.MaxFile+1)), api.EFAULT)
		s.Put(addr, []byte{1, 2})
		if s.Stamp(addr) != 0 {
			t.Errorf("Stamp(%d): %d", addr, s.Stamp(addr))
		}
	}
	if s.Regions() != nil || s.Pages() != 0 || s.Copy() != nil {
		t.Errorf("%v %d %v", s.Regions(), s.Pages(), s.Copy())
	}
}

func wantNoSpaceAt(t *testing.T, addr uint64, n int) {
	t.Helper()
	var s *Space
	got, f := s.Load(addr, n)
	if got != 0 {
		t.Errorf("Load: %d", got)
	}
	wantFault(t, "Load", f, api.FaultLoad, addr)
	wantFault(t, "Store", s.Store(addr, n, 5), api.FaultStore, addr)
	wantFault(t, "Probe", s.Probe(addr, n), api.FaultStore, addr)
	wantErr(t, "Check", s.Check(addr, n, r), api.EFAULT)
	wantNoIn(t, s, addr, n, api.EFAULT)
	wantText(t, s, addr, n, "", api.EFAULT)
	if b := s.Peek(addr, n); b != nil {
		t.Errorf("Peek: %v", b)
	}
}
