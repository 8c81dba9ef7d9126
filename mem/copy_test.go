package mem

import (
	"bytes"
	"math"
	"strings"
	"testing"

	"marionette/api"
)

func wantIn(t *testing.T, s *Space, addr uint64, want []byte) {
	t.Helper()
	if got, e := s.In(addr, len(want)); !bytes.Equal(got, want) || e != api.OK {
		t.Errorf("In(%#x, %d): %v %d", addr, len(want), got[:min(len(got), 24)], e)
	}
}

func wantNoIn(t *testing.T, s *Space, addr uint64, n int, want api.Errno) {
	t.Helper()
	if got, e := s.In(addr, n); len(got) != 0 || e != want {
		t.Errorf("In(%#x, %d): %d bytes, %d, not %d", addr, n, len(got), e, want)
	}
}

func wantText(t *testing.T, s *Space, addr uint64, most int, want string, wantErr api.Errno) {
	t.Helper()
	if got, e := s.Text(addr, most); got != want || e != wantErr {
		t.Errorf("Text(%#x, %d): %d bytes %d, not %d bytes %d", addr, most, len(got), e, len(want), wantErr)
	}
}

// P8.4: Check.

func TestCheckCounts(t *testing.T) {
	s := New(2000)
	wantMap(t, s, size, api.MaxFile+size, r, true, size, api.OK)
	for _, n := range []int{-1, math.MinInt, api.MaxFile + 1, math.MaxInt} {
		wantErr(t, "Check", s.Check(size, n, r), api.EINVAL)
		wantErr(t, "Check beyond Top", s.Check(end, n, r), api.EINVAL)
		wantErr(t, "Check of what is not mapped", s.Check(0, n, w), api.EINVAL)
	}
	for _, n := range []int{0, 1, 2, api.PageSize, api.PageSize + 1, api.MaxFile - 1, api.MaxFile} {
		wantErr(t, "Check", s.Check(size, n, r), api.OK)
		wantErr(t, "Check", s.Check(2*size, n, r), api.OK)
	}
	wantErr(t, "Check", s.Check(2*size+1, api.MaxFile, r), api.EFAULT)
}

func TestCheckOfNoPlace(t *testing.T) {
	s := New(1)
	for _, addr := range []uint64{0, 5, size, top - 1, top, top + 1, end} {
		wantErr(t, "Check", s.Check(addr, 0, r|w|x), api.OK)
		wantNoIn(t, s, addr, 0, api.OK)
		wantErr(t, "Out", s.Out(addr, nil), api.OK)
	}
}

func TestCheckPlaces(t *testing.T) {
	s := spaceOf(t, reg(0, 1, 7), reg(2, 3, r), reg(3, 4, r|w), reg(top/size-1, top/size, r))
	cases := []struct {
		addr uint64
		n    int
		prot int
		want api.Errno
	}{
		{2 * size, 2 * api.PageSize, r, api.OK},
		{3*size - 1, 2, r, api.OK},
		{2 * size, 2*api.PageSize + 1, r, api.EFAULT},
		{2*size - 1, 2, r, api.EFAULT},
		{2*size - 1, 1, r, api.EFAULT},
		{4*size - 1, 1, r | w, api.OK},
		{4 * size, 1, r, api.EFAULT},
		{3 * size, api.PageSize, r | w, api.OK},
		{3*size - 1, 2, r | w, api.EFAULT},
		{3*size - 1, 1, w, api.EFAULT},
		{3 * size, 1, r | w | x, api.EFAULT},
		{3 * size, 1, 0, api.OK},
		{size, 1, 0, api.EFAULT},
		{0, 1, 7, api.OK},
		{0, 1, 8, api.EFAULT},
		{0, 1, 15, api.EFAULT},
		{0, 1, -1, api.EFAULT},
		{0, 1, math.MinInt, api.EFAULT},
		{top - 1, 1, r, api.OK},
		{top - size, api.PageSize, r, api.OK},
		{top - 1, 2, r, api.EFAULT},
		{top, 1, r, api.EFAULT},
		{top, 1, 0, api.EFAULT},
		{end, 1, r, api.EFAULT},
		{end, 2, r, api.EFAULT},
		{end - 3, 4, r, api.EFAULT},
		{end - 3, 8, r, api.EFAULT},
		{end, api.MaxFile, 0, api.EFAULT},
		{1 << 63, 1, r, api.EFAULT},
	}
	for _, c := range cases {
		if got := s.Check(c.addr, c.n, c.prot); got != c.want {
			t.Errorf("Check(%#x, %d, %d): %d, not %d", c.addr, c.n, c.prot, got, c.want)
		}
	}
}

// P8.4: In and Out.

func TestOutThenIn(t *testing.T) {
	s := New(10)
	wantMap(t, s, size, 4*size, r|w, true, size, api.OK)
	b := full(int(2*size + 9))
	wantErr(t, "Out", s.Out(2*size-3, b), api.OK)
	wantIn(t, s, 2*size-3, b)
	wantIn(t, s, 2*size-4, append([]byte{0}, b...))
	wantIn(t, s, 4*size, append(bytes.Clone(b[2*size+3:]), make([]byte, 30)...))
}

func TestInAndOutRefuse(t *testing.T) {
	s := spaceOf(t, reg(1, 2, r), reg(2, 3, w), reg(3, 4, r|w))
	wantKept(t, s, "refused", func() {
		wantNoIn(t, s, 2*size, 1, api.EFAULT)
		wantNoIn(t, s, 2*size-1, 2, api.EFAULT)
		wantNoIn(t, s, 4*size-1, 2, api.EFAULT)
		wantNoIn(t, s, 0, 1, api.EFAULT)
		wantNoIn(t, s, end, 4, api.EFAULT)
		wantNoIn(t, s, size, -1, api.EINVAL)
		wantNoIn(t, s, 0, api.MaxFile+1, api.EINVAL)
		wantNoIn(t, s, 0, math.MaxInt, api.EINVAL)
		wantErr(t, "Out", s.Out(size, []byte{9}), api.EFAULT)
		wantErr(t, "Out", s.Out(2*size-1, []byte{9, 9}), api.EFAULT)
		wantErr(t, "Out", s.Out(4*size-1, []byte{9, 9}), api.EFAULT)
		wantErr(t, "Out", s.Out(2*size, make([]byte, 3*size)), api.EFAULT)
		wantErr(t, "Out", s.Out(end, []byte{9, 9}), api.EFAULT)
		wantErr(t, "Out", s.Out(3*size, make([]byte, api.MaxFile+1)), api.EINVAL)
	}, 0, 1, 2, 3, 4)
	wantErr(t, "Out", s.Out(3*size-1, []byte{7, 8}), api.OK)
	wantPeek(t, s, 3*size-1, []byte{7, 8})
	wantIn(t, s, 3*size, []byte{8, 2})
}

func TestLongestInAndOut(t *testing.T) {
	s := New(2000)
	wantMap(t, s, size, api.MaxFile+2*size, r|w, true, size, api.OK)
	b := full(api.MaxFile)
	wantErr(t, "Out", s.Out(size+5, b), api.OK)
	wantIn(t, s, size+5, b)
}

// P8.4: Text.

func TestText(t *testing.T) {
	s := spaceOf(t, reg(1, 3, r))
	s.Put(size, []byte("ab\x00cd\x00\x00"))
	wantText(t, s, size, 10, "ab", api.OK)
	wantText(t, s, size, 3, "ab", api.OK)
	wantText(t, s, size, math.MaxInt, "ab", api.OK)
	wantText(t, s, size+1, 10, "b", api.OK)
	wantText(t, s, size+2, 1, "", api.OK)
	wantText(t, s, size+3, 3, "cd", api.OK)
	wantText(t, s, size, 2, "", api.ENAMETOOLONG)
	wantText(t, s, size, 1, "", api.ENAMETOOLONG)
	for _, most := range []int{0, -1, math.MinInt} {
		wantText(t, s, size, most, "", api.ENAMETOOLONG)
		wantText(t, s, size+2, most, "", api.ENAMETOOLONG)
		wantText(t, s, 0, most, "", api.ENAMETOOLONG)
	}
}

func TestTextOfAnyBytes(t *testing.T) {
	s := spaceOf(t, reg(1, 2, r))
	s.Put(size, []byte("\xff\xfe\x80\n\x00"))
	wantText(t, s, size, 5, "\xff\xfe\x80\n", api.OK)
}

func TestTextOverPages(t *testing.T) {
	s := spaceOf(t, reg(1, 4, r))
	b := full(int(3 * size))
	b[3*size-1] = 0
	s.Put(size, b)
	want := string(b[:3*size-1])
	wantText(t, s, size, int(3*size), want, api.OK)
	wantText(t, s, size, int(3*size)-1, "", api.ENAMETOOLONG)
	wantText(t, s, size+100, int(3*size), want[100:], api.OK)
	s.Put(2*size, []byte{0})
	wantText(t, s, size, int(size)+1, want[:size], api.OK)
	wantText(t, s, size, int(size), "", api.ENAMETOOLONG)
	wantText(t, s, 2*size, 1, "", api.OK)
}

func TestTextAtAnEdge(t *testing.T) {
	for _, behind := range []uint64{2 * size, top} {
		s := spaceOf(t, reg(behind/size-1, behind/size, r))
		s.Put(behind-4, []byte("abc\x00"))
		wantText(t, s, behind-4, 100, "abc", api.OK)
		s.Put(behind-4, []byte("abcd"))
		wantText(t, s, behind-4, 100, "", api.EFAULT)
		wantText(t, s, behind-4, math.MaxInt, "", api.EFAULT)
		wantText(t, s, behind-4, 5, "", api.EFAULT)
		wantText(t, s, behind-4, 4, "", api.ENAMETOOLONG)
	}
	s := spaceOf(t, reg(1, 2, r), reg(2, 3, w))
	s.Put(2*size, []byte{0})
	wantText(t, s, 2*size-1, 2, "", api.EFAULT)
	wantText(t, s, 2*size, 1, "", api.EFAULT)
	wantText(t, s, 0, 1, "", api.EFAULT)
	for _, addr := range []uint64{top, end, end - 1, 1 << 63} {
		wantText(t, s, addr, 9, "", api.EFAULT)
	}
}

func TestLongText(t *testing.T) {
	s := New(4000)
	n := 2*api.MaxFile + 77
	wantMap(t, s, size, uint64(n)+1, r, true, size, api.OK)
	s.Put(size, full(n))
	wantText(t, s, size, math.MaxInt, string(full(n)), api.OK)
}

// P8.4: Put and Peek.

func TestPutWhateverMayBeDone(t *testing.T) {
	for prot := range 8 {
		s := New(10)
		wantMap(t, s, size, 2*size, prot, true, size, api.OK)
		s.Put(2*size-2, []byte{1, 2, 3, 4})
		wantPeek(t, s, 2*size-3, []byte{0, 1, 2, 3, 4, 0})
	}
}

func TestPutOfWhatIsNotMapped(t *testing.T) {
	s := New(10)
	wantMap(t, s, size, size, r, true, size, api.OK)
	wantMap(t, s, 3*size, size, 0, true, 3*size, api.OK)
	was := []uint64{s.Stamp(0), s.Stamp(2), s.Stamp(4)}
	s.Put(0, full(int(5*size)))
	want := full(int(5 * size))
	for _, hole := range []uint64{0, 2, 4} {
		clear(want[hole*size : (hole+1)*size])
	}
	wantPeek(t, s, 0, want)
	for i, p := range []uint64{0, 2, 4} {
		if s.Stamp(p) != was[i] {
			t.Errorf("page %d: not mapped, but stamped", p)
		}
	}
	wantMap(t, s, 2*size, size, r, true, 2*size, api.OK)
	wantPeek(t, s, 2*size, make([]byte, size))
}

func TestPutAtTop(t *testing.T) {
	s := spaceOf(t, reg(0, 1, r), reg(top/size-1, top/size, r))
	s.Put(top-1, []byte{8, 9})
	wantPeek(t, s, top-2, []byte{full(int(size))[size-2], 8, 0, 0})
	wantPeek(t, s, 0, full(int(size)))
	wantKept(t, s, "Put", func() {
		s.Put(top, full(10))
		s.Put(1<<63, full(10))
		s.Put(end, full(1))
		s.Put(5, nil)
		s.Put(5, []byte{})
	}, 0, 1, top/size-1)
	// Sums of places go round.
	s.Put(end-1, []byte{0xa, 0xb, 0xc, 0xd})
	wantPeek(t, s, 0, []byte{0xc, 0xd, 3})
}

func TestPutOfManyBytes(t *testing.T) {
	s := New(4000)
	n := api.MaxFile + 5000
	wantMap(t, s, size, uint64(n), 0, true, size, api.OK)
	s.Put(size+1, full(n-1))
	wantPeek(t, s, size, append([]byte{0}, full(100)...))
	wantPeek(t, s, size+api.MaxFile, full(n)[api.MaxFile-1:n-1])
}

func TestPeek(t *testing.T) {
	s := spaceOf(t, reg(1, 2, 0))
	wantPeek(t, s, size-2, []byte{0, 0, 1, 2, 3})
	wantPeek(t, s, 2*size-1, []byte{full(int(size))[size-1], 0})
	for _, n := range []int{0, -1, api.MaxFile + 1, math.MinInt, math.MaxInt} {
		if got := s.Peek(size, n); len(got) != 0 {
			t.Errorf("Peek of %d: %d bytes", n, len(got))
		}
	}
	wantPeek(t, s, end, make([]byte, int(size)+9))
	wantPeek(t, s, 0, append(make([]byte, size), full(int(size))...))
	if got := s.Peek(0, api.MaxFile); len(got) != api.MaxFile {
		t.Errorf("Peek of MaxFile: %d bytes", len(got))
	}
}

// R4: what is handed in and what is answered is shared with nobody.

func TestNothingIsShared(t *testing.T) {
	s := New(10)
	wantMap(t, s, size, 2*size, r|w, true, size, api.OK)
	spare := append(make([]byte, 0, 16), 1, 2, 3)
	whole := spare[:16]
	copy(whole[3:], "spare room")
	before := bytes.Clone(whole)
	wantErr(t, "Out", s.Out(size, spare), api.OK)
	s.Put(size+100, spare)
	if !bytes.Equal(whole, before) {
		t.Errorf("what was handed in is %v, not %v", whole, before)
	}
	clear(whole)
	wantPeek(t, s, size, []byte{1, 2, 3, 0})
	wantPeek(t, s, size+100, []byte{1, 2, 3, 0})

	in, _ := s.In(size, 3)
	clear(in[:cap(in)])
	peek := s.Peek(size, 3)
	clear(peek[:cap(peek)])
	wantPeek(t, s, size, []byte{1, 2, 3})

	regions := s.Regions()
	regions[0] = api.Region{}
	wantRegions(t, s, reg(1, 3, r|w))

	text, _ := s.Text(size, 9)
	kept := strings.Clone(text)
	s.Put(size, []byte{9, 9, 9, 9})
	if text != kept {
		t.Errorf("text %q became %q", kept, text)
	}
}
