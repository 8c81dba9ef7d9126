package page

import (
	"bytes"
	"math"
	"math/rand"
	"testing"

	"marionette/api"
)

const (
	size     = api.PageSize
	top      = uint64(api.Top)
	end      = uint64(math.MaxUint64)
	lastPage = top/size - 1
)

// full is n bytes, none of them 0.
func full(n int) []byte {
	b := make([]byte, n)
	for i := range b {
		b[i] = byte(i%251 + 1)
	}
	return b
}

func wantRead(t *testing.T, s *Store, addr uint64, want []byte) {
	t.Helper()
	if got := s.Read(addr, len(want)); !bytes.Equal(got, want) {
		t.Errorf("Read(%#x, %d): %v, not %v", addr, len(want), brief(got), brief(want))
	}
}

func brief(b []byte) []byte { return b[:min(len(b), 24)] }

func wantHeld(t *testing.T, s *Store, want int) {
	t.Helper()
	if got := s.Held(); got != want {
		t.Errorf("%d held, not %d", got, want)
	}
}

// wantStamps does something, and asks which of the pages have greater stamps then; the others must have the same.
func wantStamps(t *testing.T, s *Store, name string, do func(), greater []uint64, same []uint64) {
	t.Helper()
	before := map[uint64]uint64{}
	for _, list := range [][]uint64{greater, same} {
		for _, page := range list {
			before[page] = s.Stamp(page)
		}
	}
	do()
	for _, page := range greater {
		if s.Stamp(page) <= before[page] {
			t.Errorf("%s: page %d: stamp %d behind %d", name, page, s.Stamp(page), before[page])
		}
	}
	for _, page := range same {
		if s.Stamp(page) != before[page] {
			t.Errorf("%s: page %d: stamp %d behind %d, not the same", name, page, s.Stamp(page), before[page])
		}
	}
}

// P6.1: a new store.

func TestNewIsNoughts(t *testing.T) {
	s := New()
	wantHeld(t, s, 0)
	for _, addr := range []uint64{0, 1, size - 1, size, 1 << 32, top - size, top - 1, top, end} {
		wantRead(t, s, addr, make([]byte, 3))
	}
	wantHeld(t, s, 0)
}

func TestZeroStoreIsNew(t *testing.T) {
	s := &Store{}
	wantRead(t, s, 0, []byte{0})
	s.Clear(0, top)
	s.Touch(0, 1)
	twin := s.Copy()
	s.Write(7, []byte{8})
	twin.Write(7, []byte{9})
	twin.Touch(0, 1)
	wantRead(t, s, 7, []byte{8})
	wantRead(t, twin, 7, []byte{9})
}

// P6.1: Read and Write.

func TestWriteThenRead(t *testing.T) {
	s := New()
	s.Write(100, []byte{1, 2, 3})
	wantRead(t, s, 99, []byte{0, 1, 2, 3, 0})
	s.Write(101, []byte{9})
	wantRead(t, s, 100, []byte{1, 9, 3})
	s.Write(100, []byte{0, 0})
	wantRead(t, s, 100, []byte{0, 0, 3})
	wantRead(t, s, 100+size, []byte{0, 0, 0})
}

func TestWriteOverPages(t *testing.T) {
	s := New()
	s.Write(4095, []byte{1, 2})
	wantHeld(t, s, 2)
	wantRead(t, s, 4094, []byte{0, 1, 2, 0})

	s = New()
	b := full(3*size + 2)
	s.Write(5*size-1, b)
	wantHeld(t, s, 5)
	wantRead(t, s, 5*size-1, b)
	wantRead(t, s, 5*size-2, append([]byte{0}, b...))
	wantRead(t, s, 8*size, append(append([]byte(nil), b[3*size+1:]...), 0, 0))
}

func TestReadOverPagesNotHeld(t *testing.T) {
	s := New()
	s.Write(0, []byte{1})
	s.Write(3*size-1, []byte{2, 3})
	want := make([]byte, 4*size)
	want[0], want[3*size-1], want[3*size] = 1, 2, 3
	wantRead(t, s, 0, want)
	wantHeld(t, s, 3)
}

func TestReadCounts(t *testing.T) {
	s := New()
	s.Write(0, []byte{1})
	for _, n := range []int{0, -1, math.MinInt, api.MaxFile + 1, math.MaxInt} {
		if got := s.Read(0, n); len(got) != 0 {
			t.Errorf("Read of %d: %d bytes", n, len(got))
		}
	}
	for _, n := range []int{1, 2, size, api.MaxFile - 1, api.MaxFile} {
		if got := s.Read(0, n); len(got) != n || got[0] != 1 {
			t.Errorf("Read of %d: %d bytes", n, len(got))
		}
	}
}

func TestWriteCounts(t *testing.T) {
	s := New()
	wantStamps(t, s, "nothing", func() {
		s.Write(0, nil)
		s.Write(0, []byte{})
		s.Write(0, full(api.MaxFile+1))
	}, nil, []uint64{0, 1, 1023, 1024})
	wantHeld(t, s, 0)
	wantRead(t, s, 0, []byte{0})

	b := full(api.MaxFile)
	s.Write(3, b)
	wantRead(t, s, 3, b)
	wantHeld(t, s, api.MaxFile/size+1)
}

func TestWriteAtTop(t *testing.T) {
	s := New()
	s.Write(top-2, []byte{1, 2, 3, 4})
	wantHeld(t, s, 1)
	wantRead(t, s, top-3, []byte{0, 1, 2, 0, 0, 0})
	wantRead(t, s, top, []byte{0, 0})
	wantRead(t, s, 0, []byte{0, 0})
	s.Write(top-1, []byte{7})
	wantRead(t, s, top-2, []byte{1, 7})
}

func TestWriteBeyondTop(t *testing.T) {
	for _, addr := range []uint64{top, top + 1, top + size, 1 << 63, end - 1, end} {
		s := New()
		wantStamps(t, s, "beyond", func() { s.Write(addr, []byte{1, 2, 3}) }, nil, []uint64{0, 1, lastPage})
		wantHeld(t, s, 0)
		wantRead(t, s, addr, []byte{0, 0, 0})
		wantRead(t, s, 0, []byte{0, 0, 0})
	}
}

func TestReadDoesNotGoRound(t *testing.T) {
	s := New()
	s.Write(0, full(16))
	wantRead(t, s, end, make([]byte, 8))
	wantRead(t, s, end-3, make([]byte, 8))
	wantRead(t, s, top-1, make([]byte, 8))
}

// P6.1: Clear.

func TestClear(t *testing.T) {
	b := full(4 * size)
	cases := []struct{ from, to uint64 }{
		{0, 1}, {1, 2}, {size - 1, size}, {size - 1, size + 1}, {size, size + 1}, {0, size}, {size, 2 * size},
		{1, size}, {0, size - 1}, {0, size + 1}, {100, 3*size + 5}, {size, 4 * size}, {0, 4 * size}, {0, top}, {1, top},
		{3 * size, end}, {4*size - 1, 4 * size}, {4*size - 1, end}, {0, end},
	}
	for _, c := range cases {
		s := New()
		s.Write(0, b)
		s.Clear(c.from, c.to)
		want := bytes.Clone(b)
		clear(want[c.from:min(c.to, uint64(len(b)))])
		wantRead(t, s, 0, want)
	}
}

func TestClearOfNothing(t *testing.T) {
	for _, c := range [][2]uint64{{0, 0}, {5, 5}, {6, 5}, {size, 0}, {end, 0}, {top, 0}, {top, top}, {top, end}, {end, end}, {2 * size, size}} {
		s := New()
		s.Write(0, full(2*size))
		s.Write(top-size, full(size))
		wantStamps(t, s, "nothing", func() { s.Clear(c[0], c[1]); s.Touch(c[0], c[1]) }, nil, []uint64{0, 1, 2, lastPage})
		wantRead(t, s, 0, full(2*size))
		wantRead(t, s, top-size, full(size))
		wantHeld(t, s, 3)
	}
}

func TestClearWideKeepsItsEdges(t *testing.T) {
	s := New()
	far := uint64(api.MaxPages+8) * size
	for _, addr := range []uint64{0, size, 3 * size, far, far + size} {
		s.Write(addr, full(size))
	}
	s.Clear(size+10, far+10)
	want := full(size)
	wantRead(t, s, 0, want)
	wantRead(t, s, far+size, want)
	clear(want[10:])
	wantRead(t, s, size, want)
	wantRead(t, s, 3*size, make([]byte, size))
	want = full(size)
	clear(want[:10])
	wantRead(t, s, far, want)
	wantHeld(t, s, 4)
}

func TestClearAtTop(t *testing.T) {
	s := New()
	s.Write(top-2*size, full(2*size))
	s.Clear(top-1, end)
	want := full(2 * size)
	want[2*size-1] = 0
	wantRead(t, s, top-2*size, want)
	s.Clear(top-size, end)
	clear(want[size:])
	wantRead(t, s, top-2*size, want)
	wantHeld(t, s, 1)
}

// P6.2: Stamp.

func TestStampStays(t *testing.T) {
	s := New()
	s.Write(size, full(size))
	pages := []uint64{0, 1, 2, lastPage}
	wantStamps(t, s, "asking", func() {
		s.Read(0, 3*size)
		s.Held()
		s.Stamp(1)
		s.Copy().Write(0, full(3*size))
	}, nil, pages)
}

func TestStampOfWrites(t *testing.T) {
	s := New()
	wantStamps(t, s, "first", func() { s.Write(size, []byte{0}) }, []uint64{1}, []uint64{0, 2})
	wantStamps(t, s, "the same byte", func() { s.Write(size, []byte{0}) }, []uint64{1}, []uint64{0, 2})
	wantStamps(t, s, "last place", func() { s.Write(2*size-1, []byte{1}) }, []uint64{1}, []uint64{0, 2})
	wantStamps(t, s, "two pages", func() { s.Write(2*size-1, []byte{1, 2}) }, []uint64{1, 2}, []uint64{0, 3})
	wantStamps(t, s, "whole pages", func() { s.Write(size, full(2*size)) }, []uint64{1, 2}, []uint64{0, 3})
	wantStamps(t, s, "at Top", func() { s.Write(top-1, []byte{1, 2}) }, []uint64{lastPage}, []uint64{0, 1, 2, lastPage - 1})
	wantStamps(t, s, "longest", func() { s.Write(0, full(api.MaxFile)) }, []uint64{0, 1, 1023}, []uint64{1024, lastPage})
}

// TestStampOfSpans holds Clear and Touch against the same list: the one stamps as the other.
func TestStampOfSpans(t *testing.T) {
	most := uint64(api.MaxPages)
	cases := []struct {
		name          string
		from, to      uint64
		greater, same []uint64
	}{
		{"first place", size, size + 1, []uint64{1}, []uint64{0, 2}},
		{"last place", 2*size - 1, 2 * size, []uint64{1}, []uint64{0, 2}},
		{"two places", 2*size - 1, 2*size + 1, []uint64{1, 2}, []uint64{0, 3}},
		{"whole page", size, 2 * size, []uint64{1}, []uint64{0, 2}},
		{"pages", size, 5 * size, []uint64{1, 2, 3, 4}, []uint64{0, 5}},
		{"last page", top - 1, top, []uint64{lastPage}, []uint64{0, lastPage - 1}},
		{"over Top", top - 1, end, []uint64{lastPage}, []uint64{0, 1, lastPage - 1}},
		{"most pages over Top", top - most*size, end, []uint64{lastPage + 1 - most, lastPage}, []uint64{0, lastPage - most}},
		{"most pages", size, (most + 1) * size, []uint64{1, 2, most}, []uint64{0, most + 1, lastPage}},
		{"most pages in part", 2*size - 1, most*size + 1, []uint64{1, most}, []uint64{0, most + 1, lastPage}},
		{"more pages", size, (most+1)*size + 1, []uint64{0, 1, most + 1, most + 2, lastPage}, nil},
		{"more pages in part", 2*size - 1, (most+1)*size + 1, []uint64{0, 1, most + 1, most + 2, lastPage}, nil},
		{"all", 0, top, []uint64{0, 1, most, lastPage}, nil},
		{"all and beyond", 0, end, []uint64{0, 1, most, lastPage}, nil},
	}
	for _, held := range []bool{false, true} {
		for _, c := range cases {
			s := New()
			if held {
				s.Write(size-1, full(2*size))
				s.Write(top-1, []byte{1})
			}
			wantStamps(t, s, "Touch: "+c.name, func() { s.Touch(c.from, c.to) }, c.greater, c.same)
			wantStamps(t, s, "Touch again: "+c.name, func() { s.Touch(c.from, c.to) }, c.greater, c.same)
			wantStamps(t, s, "Clear: "+c.name, func() { s.Clear(c.from, c.to) }, c.greater, c.same)
			wantStamps(t, s, "Clear again: "+c.name, func() { s.Clear(c.from, c.to) }, c.greater, c.same)
		}
	}
}

func TestStampNeverComesBack(t *testing.T) {
	s := New()
	seen := map[uint64]bool{s.Stamp(3): true}
	low := s.Stamp(3)
	for i := range 40 {
		switch i % 5 {
		case 0:
			s.Write(3*size, []byte{1})
		case 1:
			s.Clear(3*size, 4*size)
		case 2:
			s.Touch(0, top)
		case 3:
			s.Clear(0, top)
		case 4:
			s.Touch(3*size, 3*size+1)
		}
		if now := s.Stamp(3); seen[now] || now <= low {
			t.Fatalf("step %d: stamp %d behind %d", i, now, low)
		}
		low = s.Stamp(3)
		seen[low] = true
	}
}

func TestTouchChangesNoByte(t *testing.T) {
	s := New()
	s.Write(0, full(2*size))
	s.Touch(0, size)
	s.Touch(size, top)
	s.Touch(9*size, 10*size)
	wantRead(t, s, 0, full(2*size))
	wantHeld(t, s, 2)
}

func TestStampOfNoPage(t *testing.T) {
	s := New()
	s.Write(top-1, []byte{1, 2, 3})
	for _, page := range []uint64{lastPage + 1, 1 << 52, end} {
		s.Stamp(page)
	}
	wantHeld(t, s, 1)
}

// P6.2: Held.

func TestHeld(t *testing.T) {
	s := New()
	s.Write(0, full(3*size))
	s.Write(0, full(1))
	wantHeld(t, s, 3)
	s.Clear(size, 2*size-1)
	if s.Held() > 3 {
		t.Errorf("%d held behind a Clear in part", s.Held())
	}
	s.Clear(size, 2*size)
	wantHeld(t, s, 2)
	s.Clear(9*size, 11*size)
	wantHeld(t, s, 2)
	s.Clear(size-1, 3*size)
	wantHeld(t, s, 1)
	s.Write(size, []byte{1})
	wantHeld(t, s, 2)
	s.Clear(0, top)
	wantHeld(t, s, 0)
	s.Clear(0, size+1)
	wantHeld(t, s, 0)
}

// P6.3: Copy, and no store.

func TestCopySharesNothing(t *testing.T) {
	s := New()
	s.Touch(0, top)
	s.Write(size-1, []byte{1, 2})
	s.Touch(7*size, 8*size)
	twin := s.Copy()
	pages := []uint64{0, 1, 2, 7, lastPage}
	for _, page := range pages {
		if twin.Stamp(page) != s.Stamp(page) {
			t.Errorf("page %d: stamp %d, not %d", page, twin.Stamp(page), s.Stamp(page))
		}
	}
	wantHeld(t, twin, 2)
	wantRead(t, twin, size-1, []byte{1, 2})

	wantStamps(t, twin, "the first changes", func() {
		s.Write(size-1, []byte{8, 9})
		s.Write(2*size, []byte{3})
		s.Clear(0, size)
		s.Touch(0, top)
	}, nil, pages)
	wantRead(t, twin, size-1, []byte{1, 2})
	wantHeld(t, twin, 2)

	wantStamps(t, s, "the copy changes", func() {
		twin.Write(size, []byte{5})
		twin.Write(7*size, []byte{6})
		twin.Clear(0, top)
	}, nil, pages)
	wantRead(t, s, size, []byte{9})
	wantRead(t, s, 7*size, []byte{0})
	wantHeld(t, s, 2)
}

func TestCopyDoesTheSame(t *testing.T) {
	s := New()
	s.Write(0, full(9*size))
	twin := s.Copy()
	for _, one := range []*Store{s, twin} {
		wantStamps(t, one, "behind Copy", func() { one.Write(3*size, []byte{1}) }, []uint64{3}, []uint64{2, 4})
		one.Clear(5*size, 6*size+1)
		one.Touch(0, top)
		one.Write(size, []byte{2})
	}
	for page := range uint64(12) {
		if s.Stamp(page) != twin.Stamp(page) {
			t.Errorf("page %d: stamps %d and %d", page, s.Stamp(page), twin.Stamp(page))
		}
	}
	wantRead(t, twin, 0, s.Read(0, 12*size))
	wantHeld(t, twin, s.Held())
}

func TestNilStore(t *testing.T) {
	var s *Store
	s.Write(0, []byte{1})
	s.Clear(0, top)
	s.Touch(0, top)
	if s.Read(0, 4) != nil || s.Stamp(0) != 0 || s.Held() != 0 || s.Copy() != nil {
		t.Errorf("%v, %d, %d, %v", s.Read(0, 4), s.Stamp(0), s.Held(), s.Copy())
	}
}

// R4: what is handed in stays, and what is answered is new memory.

func TestMemoryIsNotShared(t *testing.T) {
	s := New()
	room := []byte{1, 2, 3, 4}
	s.Write(0, room[:2])
	room[0] = 9
	wantRead(t, s, 0, []byte{1, 2, 0})
	if !bytes.Equal(room, []byte{9, 2, 3, 4}) {
		t.Errorf("what was handed in is %v", room)
	}
	got := s.Read(0, 2)
	got[0] = 7
	_ = append(got, 7)
	wantRead(t, s, 0, []byte{1, 2, 0})
	s.Write(0, []byte{5})
	if got[1] != 2 || got[0] != 7 {
		t.Errorf("what was answered is %v", got)
	}
}

// plain is a store as plain as can be: a byte for each place of a window, and whether its pages changed.
type plain struct {
	low     uint64
	bytes   []byte
	written map[uint64]bool
	changed map[uint64]bool
}

func (p *plain) each(from, n uint64, do func(at int, page uint64)) {
	for i := range n {
		if addr := from + i; addr >= p.low && addr < top && addr-p.low < uint64(len(p.bytes)) {
			do(int(addr-p.low), addr/size)
		}
	}
}

func (p *plain) write(addr uint64, b []byte) {
	p.each(addr, uint64(len(b)), func(at int, page uint64) {
		p.bytes[at] = b[uint64(at)+p.low-addr]
		p.written[page], p.changed[page] = true, true
	})
}

func (p *plain) clear(from, to uint64) {
	count := map[uint64]int{}
	p.each(from, to-from, func(at int, page uint64) {
		p.bytes[at] = 0
		p.changed[page] = true
		count[page]++
		if count[page] == size {
			delete(p.written, page)
		}
	})
}

func (p *plain) touch(from, to uint64) {
	p.each(from, to-from, func(_ int, page uint64) { p.changed[page] = true })
}

func TestAgainstPlain(t *testing.T) {
	const window = 6 * size
	for seed := range int64(60) {
		rng := rand.New(rand.NewSource(seed))
		low := []uint64{0, 1 << 33, top - 5*size}[seed%3]
		s, p := New(), &plain{low: low, bytes: make([]byte, window), written: map[uint64]bool{}, changed: map[uint64]bool{}}
		for range 60 {
			near := func() uint64 {
				place := low + uint64(rng.Intn(6))*size
				return place + []uint64{0, 1, size - 1, uint64(rng.Intn(size))}[rng.Intn(4)]
			}
			from, to := near(), near()
			if to < from {
				from, to = to, from
			}
			before := map[uint64]uint64{}
			for page := low / size; page < (low+window)/size && page <= lastPage; page++ {
				before[page] = s.Stamp(page)
			}
			clear(p.changed)
			switch rng.Intn(4) {
			case 0:
				s.Clear(from, to)
				p.clear(from, to)
			case 1:
				s.Touch(from, to)
				p.touch(from, to)
			case 2:
				s = s.Copy()
			default:
				b := full(int(to - from))
				s.Write(from, b)
				p.write(from, b)
			}
			wantRead(t, s, low, p.bytes)
			wantRead(t, s, from, p.bytes[from-low:to-low])
			if s.Held() > len(p.written) {
				t.Fatalf("seed %d: %d held, %d written", seed, s.Held(), len(p.written))
			}
			for page, was := range before {
				if now := s.Stamp(page); p.changed[page] && now <= was || !p.changed[page] && now != was {
					t.Fatalf("seed %d: page %d: stamp %d behind %d, changed %v", seed, page, now, was, p.changed[page])
				}
			}
			if t.Failed() {
				t.Fatalf("seed %d", seed)
			}
		}
	}
}
