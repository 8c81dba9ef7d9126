package region

import (
	"math"
	"math/rand"
	"slices"
	"testing"

	"marionette/api"
)

const (
	size = uint64(api.PageSize)
	top  = uint64(api.Top)
	end  = uint64(math.MaxUint64)
	r    = api.ProtR
	w    = api.ProtW
	x    = api.ProtX
)

// reg is the region of the pages from from up to to.
func reg(from, to uint64, prot int) api.Region {
	return api.Region{Start: from * size, End: to * size, Prot: prot}
}

// listOf is a list with all of these mapped, one after the other.
func listOf(t *testing.T, regions ...api.Region) *List {
	t.Helper()
	l := New()
	for _, one := range regions {
		wantErr(t, "Map", l.Map(one.Start, one.End, one.Prot), api.OK)
	}
	return l
}

// crowd is a list of MaxRegions regions, of two pages each with two between: 2 to 4, 6 to 8, and so on.
func crowd(t *testing.T) *List {
	t.Helper()
	l := New()
	for i := range uint64(api.MaxRegions) {
		wantErr(t, "Map", l.Map((4*i+2)*size, (4*i+4)*size, r), api.OK)
	}
	return l
}

func wantErr(t *testing.T, name string, got, want api.Errno) {
	t.Helper()
	if got != want {
		t.Errorf("%s: %d, not %d", name, got, want)
	}
}

func wantAll(t *testing.T, l *List, want ...api.Region) {
	t.Helper()
	if got := l.All(); !slices.Equal(got, want) {
		t.Errorf("regions %x, not %x", got, want)
	}
	pages := 0
	for _, one := range want {
		pages += int((one.End - one.Start) / size)
	}
	if got := l.Pages(); got != pages {
		t.Errorf("%d pages, not %d", got, pages)
	}
}

func wantPlace(t *testing.T, name string, got uint64, ok bool, want uint64, wantOk bool) {
	t.Helper()
	if got != want || ok != wantOk {
		t.Errorf("%s: %#x %v, not %#x %v", name, got, ok, want, wantOk)
	}
}

// P7.1: what is no span, or no prot.

func TestNoSpan(t *testing.T) {
	spans := [][2]uint64{
		{0, 0}, {size, size}, {2 * size, size}, {size, 0}, {top, top}, {top, 0},
		{1, size}, {0, 1}, {0, size - 1}, {0, size + 1}, {size - 1, 2 * size}, {size + 8, 3 * size}, {size / 2, size + size/2},
		{0, top + size}, {top - size, top + size}, {top, top + size}, {top - size, top + 1}, {top + size, top + 2*size},
		{0, end}, {0, end - size + 1}, {end - size + 1, end}, {end - size + 1, 0}, {end, end}, {top - size, end - size + 1},
	}
	before := []api.Region{reg(0, 3, r|w), reg(5, 6, r), reg(top/size-1, top/size, x)}
	l := listOf(t, before...)
	for _, s := range spans {
		wantErr(t, "Map", l.Map(s[0], s[1], r), api.EINVAL)
		wantErr(t, "Unmap", l.Unmap(s[0], s[1]), api.EINVAL)
		wantErr(t, "Protect", l.Protect(s[0], s[1], r), api.EINVAL)
		if l.Free(s[0], s[1]) || New().Free(s[0], s[1]) {
			t.Errorf("%#x is free, and no span", s)
		}
	}
	wantAll(t, l, before...)
}

func TestNoProt(t *testing.T) {
	l := listOf(t, reg(1, 3, r|w))
	for _, prot := range []int{-1, -8, 8, 9, 15, 16, 1 << 32, math.MinInt, math.MaxInt} {
		wantErr(t, "Map", l.Map(size, 2*size, prot), api.EINVAL)
		wantErr(t, "Protect", l.Protect(size, 2*size, prot), api.EINVAL)
		// Named ahead of ENOMEM, by rule R2.
		wantErr(t, "Protect of a hole", l.Protect(7*size, 8*size, prot), api.EINVAL)
	}
	wantAll(t, l, reg(1, 3, r|w))
}

func TestEveryProt(t *testing.T) {
	for prot := range 8 {
		l := listOf(t, reg(1, 2, prot))
		wantAll(t, l, reg(1, 2, prot))
		wantErr(t, "Protect", l.Protect(size, 2*size, 7-prot), api.OK)
		wantAll(t, l, reg(1, 2, 7-prot))
	}
}

func TestWholeSpace(t *testing.T) {
	l := listOf(t, reg(0, top/size, 7))
	wantAll(t, l, reg(0, top/size, 7))
	wantErr(t, "Protect", l.Protect(0, top, 0), api.OK)
	wantAll(t, l, reg(0, top/size, 0))
	wantErr(t, "Unmap", l.Unmap(0, top), api.OK)
	wantAll(t, l)
}

// P7.1, P7.2: what is laid over what was there.

func TestMapOver(t *testing.T) {
	was := []api.Region{reg(4, 8, r), reg(10, 12, w)}
	cases := []struct {
		name string
		lay  api.Region
		want []api.Region
	}{
		{"ahead", reg(1, 2, x), []api.Region{reg(1, 2, x), reg(4, 8, r), reg(10, 12, w)}},
		{"between", reg(9, 10, x), []api.Region{reg(4, 8, r), reg(9, 10, x), reg(10, 12, w)}},
		{"behind", reg(14, 15, r), []api.Region{reg(4, 8, r), reg(10, 12, w), reg(14, 15, r)}},
		{"middle of one", reg(5, 6, x), []api.Region{reg(4, 5, r), reg(5, 6, x), reg(6, 8, r), reg(10, 12, w)}},
		{"beginning of one", reg(4, 5, x), []api.Region{reg(4, 5, x), reg(5, 8, r), reg(10, 12, w)}},
		{"end of one", reg(7, 8, x), []api.Region{reg(4, 7, r), reg(7, 8, x), reg(10, 12, w)}},
		{"one whole", reg(4, 8, x), []api.Region{reg(4, 8, x), reg(10, 12, w)}},
		{"more than one", reg(3, 9, x), []api.Region{reg(3, 9, x), reg(10, 12, w)}},
		{"parts of two", reg(6, 11, x), []api.Region{reg(4, 6, r), reg(6, 11, x), reg(11, 12, w)}},
		{"all", reg(0, 20, x), []api.Region{reg(0, 20, x)}},
		{"the same, within", reg(5, 6, r), was},
		{"the same, touching behind", reg(8, 9, r), []api.Region{reg(4, 9, r), reg(10, 12, w)}},
		{"the same, touching ahead", reg(3, 4, r), []api.Region{reg(3, 8, r), reg(10, 12, w)}},
		{"the same, over its end", reg(7, 9, r), []api.Region{reg(4, 9, r), reg(10, 12, w)}},
		{"touching, unlike", reg(8, 9, r|w), []api.Region{reg(4, 8, r), reg(8, 9, r|w), reg(10, 12, w)}},
		{"between, as the one behind", reg(8, 10, w), []api.Region{reg(4, 8, r), reg(8, 12, w)}},
		{"no permission, touching", reg(8, 10, 0), []api.Region{reg(4, 8, r), reg(8, 10, 0), reg(10, 12, w)}},
	}
	for _, c := range cases {
		t.Run(c.name, func(t *testing.T) {
			l := listOf(t, was...)
			wantErr(t, "Map", l.Map(c.lay.Start, c.lay.End, c.lay.Prot), api.OK)
			wantAll(t, l, c.want...)
		})
	}
}

func TestMapJoinsBoth(t *testing.T) {
	l := listOf(t, reg(6, 8, r), reg(2, 4, r), reg(4, 6, r))
	wantAll(t, l, reg(2, 8, r))
	wantErr(t, "Map", l.Map(3*size, 5*size, x), api.OK)
	wantAll(t, l, reg(2, 3, r), reg(3, 5, x), reg(5, 8, r))
	wantErr(t, "Protect", l.Protect(3*size, 5*size, r), api.OK)
	wantAll(t, l, reg(2, 8, r))
}

func TestUnmap(t *testing.T) {
	was := []api.Region{reg(4, 8, r), reg(8, 10, w), reg(12, 14, r)}
	cases := []struct {
		name     string
		from, to uint64
		want     []api.Region
	}{
		{"nothing there", 0, 4, was},
		{"between", 10, 12, was},
		{"behind", 14, 99, was},
		{"middle", 5, 7, []api.Region{reg(4, 5, r), reg(7, 8, r), reg(8, 10, w), reg(12, 14, r)}},
		{"beginning", 4, 6, []api.Region{reg(6, 8, r), reg(8, 10, w), reg(12, 14, r)}},
		{"end", 13, 14, []api.Region{reg(4, 8, r), reg(8, 10, w), reg(12, 13, r)}},
		{"one", 8, 10, []api.Region{reg(4, 8, r), reg(12, 14, r)}},
		{"parts of two", 7, 9, []api.Region{reg(4, 7, r), reg(9, 10, w), reg(12, 14, r)}},
		{"over a hole", 9, 13, []api.Region{reg(4, 8, r), reg(8, 9, w), reg(13, 14, r)}},
		{"all", 0, top / size, nil},
	}
	for _, c := range cases {
		t.Run(c.name, func(t *testing.T) {
			l := listOf(t, was...)
			wantErr(t, "Unmap", l.Unmap(c.from*size, c.to*size), api.OK)
			wantAll(t, l, c.want...)
		})
	}
}

func TestUnmapTheMiddle(t *testing.T) {
	l := listOf(t, reg(0, 3, r))
	wantErr(t, "Unmap", l.Unmap(size, 2*size), api.OK)
	wantAll(t, l, reg(0, 1, r), reg(2, 3, r))
}

func TestProtect(t *testing.T) {
	was := []api.Region{reg(4, 8, r), reg(8, 10, w), reg(12, 14, r)}
	cases := []struct {
		name     string
		from, to uint64
		prot     int
		e        api.Errno
		want     []api.Region
	}{
		{"nothing there", 0, 1, r, api.ENOMEM, was},
		{"a page ahead", 3, 5, x, api.ENOMEM, was},
		{"a page behind", 13, 15, x, api.ENOMEM, was},
		{"a hole", 9, 13, x, api.ENOMEM, was},
		{"only a hole", 10, 12, x, api.ENOMEM, was},
		{"the whole space", 0, top / size, x, api.ENOMEM, was},
		{"one", 4, 8, x, api.OK, []api.Region{reg(4, 8, x), reg(8, 10, w), reg(12, 14, r)}},
		{"middle", 5, 7, x, api.OK, []api.Region{reg(4, 5, r), reg(5, 7, x), reg(7, 8, r), reg(8, 10, w), reg(12, 14, r)}},
		{"parts of two", 7, 9, x, api.OK, []api.Region{reg(4, 7, r), reg(7, 9, x), reg(9, 10, w), reg(12, 14, r)}},
		{"two become one", 4, 10, 0, api.OK, []api.Region{reg(4, 10, 0), reg(12, 14, r)}},
		{"as the next", 8, 10, r, api.OK, []api.Region{reg(4, 10, r), reg(12, 14, r)}},
		{"as it was", 4, 8, r, api.OK, was},
		{"as a part was", 5, 6, r, api.OK, was},
	}
	for _, c := range cases {
		t.Run(c.name, func(t *testing.T) {
			l := listOf(t, was...)
			wantErr(t, "Protect", l.Protect(c.from*size, c.to*size, c.prot), c.e)
			wantAll(t, l, c.want...)
		})
	}
}

func TestProtectWithoutPermissions(t *testing.T) {
	// Mapped is not the same as having a permission.
	l := listOf(t, reg(1, 3, 0))
	wantErr(t, "Protect", l.Protect(size, 2*size, r), api.OK)
	wantAll(t, l, reg(1, 2, r), reg(2, 3, 0))
}

// P7.1: MaxRegions.

func TestTooManyRegions(t *testing.T) {
	l := crowd(t)
	before := l.All()
	if len(before) != api.MaxRegions {
		t.Fatalf("%d regions", len(before))
	}
	refused := []struct {
		name string
		do   func() api.Errno
	}{
		{"Map ahead", func() api.Errno { return l.Map(0, size, r) }},
		{"Map behind", func() api.Errno { return l.Map(top-size, top, r) }},
		{"Map touching, unlike", func() api.Errno { return l.Map(4*size, 5*size, w) }},
		{"Map over one's end, unlike", func() api.Errno { return l.Map(3*size, 4*size, w) }},
		{"Unmap of a middle", func() api.Errno { l.Map(2*size, 5*size, r); return l.Unmap(3*size, 4*size) }},
		{"Protect of a part", func() api.Errno { return l.Protect(2*size, 3*size, w) }},
		{"Protect of a middle", func() api.Errno { return l.Protect(3*size, 4*size, w) }},
	}
	for _, c := range refused {
		wantErr(t, c.name, c.do(), api.ENOMEM)
		l.Unmap(4*size, 5*size)
		wantAll(t, l, before...)
	}
}

func TestNotTooManyRegions(t *testing.T) {
	cases := []struct {
		name string
		do   func(l *List) api.Errno
		want int
	}{
		{"Map touching", func(l *List) api.Errno { return l.Map(4*size, 5*size, r) }, api.MaxRegions},
		{"Map that joins two", func(l *List) api.Errno { return l.Map(4*size, 6*size, r) }, api.MaxRegions - 1},
		{"Map over one", func(l *List) api.Errno { return l.Map(2*size, 4*size, w) }, api.MaxRegions},
		{"Map of all", func(l *List) api.Errno { return l.Map(0, top, w) }, 1},
		{"Unmap of an end", func(l *List) api.Errno { return l.Unmap(3*size, 5*size) }, api.MaxRegions},
		{"Unmap of one", func(l *List) api.Errno { return l.Unmap(2*size, 4*size) }, api.MaxRegions - 1},
		{"Protect of one", func(l *List) api.Errno { return l.Protect(2*size, 4*size, w) }, api.MaxRegions},
		{"Protect as it was", func(l *List) api.Errno { return l.Protect(2*size, 3*size, r) }, api.MaxRegions},
	}
	for _, c := range cases {
		l := crowd(t)
		wantErr(t, c.name, c.do(l), api.OK)
		if got := len(l.All()); got != c.want {
			t.Errorf("%s: %d regions, not %d", c.name, got, c.want)
		}
	}
}

func TestMostRegionsByUnmap(t *testing.T) {
	l := listOf(t, reg(0, 2*api.MaxRegions+1, r))
	for i := range uint64(api.MaxRegions - 1) {
		wantErr(t, "Unmap", l.Unmap((2*i+1)*size, (2*i+2)*size), api.OK)
	}
	last := uint64(2*api.MaxRegions - 1)
	wantErr(t, "Unmap", l.Unmap(last*size, (last+1)*size), api.ENOMEM)
	if n := len(l.All()); n != api.MaxRegions {
		t.Errorf("%d regions", n)
	}
	wantErr(t, "Unmap", l.Unmap(last*size, (last+2)*size), api.OK)
}

// P7.2: what is asked.

func TestAt(t *testing.T) {
	l := listOf(t, reg(1, 3, r), reg(3, 4, w), reg(6, 7, 0), reg(top/size-1, top/size, x))
	cases := []struct {
		addr uint64
		want api.Region
	}{
		{0, api.Region{}}, {size - 1, api.Region{}},
		{size, reg(1, 3, r)}, {size + 1, reg(1, 3, r)}, {3*size - 1, reg(1, 3, r)},
		{3 * size, reg(3, 4, w)}, {4*size - 1, reg(3, 4, w)},
		{4 * size, api.Region{}}, {5 * size, api.Region{}}, {6*size - 1, api.Region{}},
		{6 * size, reg(6, 7, 0)}, {7*size - 1, reg(6, 7, 0)}, {7 * size, api.Region{}},
		{top - size - 1, api.Region{}}, {top - size, reg(top/size-1, top/size, x)}, {top - 1, reg(top/size-1, top/size, x)},
		{top, api.Region{}}, {top + size, api.Region{}}, {end, api.Region{}},
	}
	for _, c := range cases {
		got, ok := l.At(c.addr)
		if got != c.want || ok != (c.want.End != 0) {
			t.Errorf("At(%#x): %x %v, not %x", c.addr, got, ok, c.want)
		}
	}
}

func TestFirst(t *testing.T) {
	l := listOf(t, reg(1, 3, r|w), reg(3, 4, r), reg(4, 5, 7), reg(6, 7, 0), reg(top/size-1, top/size, r))
	cases := []struct {
		start, end uint64
		prot       int
		want       uint64
		ok         bool
	}{
		{size, 3 * size, r | w, 0, false},
		{size, 3*size + 1, r | w, 3 * size, true},
		{size, 5 * size, r, 0, false},
		{size, 5*size + 1, r, 5 * size, true},
		{size, 5 * size, w, 3 * size, true},
		{size, 5 * size, r | w, 3 * size, true},
		{size, 5 * size, x, size, true},
		{size, 5 * size, 0, 0, false},
		{size, 7 * size, 0, 5 * size, true},
		{6 * size, 7 * size, 0, 0, false},
		{6 * size, 7 * size, r, 6 * size, true},
		{0, size, 0, 0, true},
		{size - 1, size, 0, size - 1, true},
		{size - 1, 2 * size, r, size - 1, true},
		{size + 7, 3*size - 5, r | w, 0, false},
		{2*size + 9, 4 * size, w, 3 * size, true},
		{3*size + 9, 4 * size, w, 3*size + 9, true},
		{3*size + 9, 5 * size, r, 0, false},
		{5*size + 3, 7 * size, 0, 5*size + 3, true},
		{size, size + 1, r, 0, false},
		{top - 1, top, r, 0, false},
		{top - size, end, r, top, true},
		{top, top + 1, 0, top, true},
		{top + 5, end, 0, top + 5, true},
		{end - 1, end, 0, end - 1, true},
		{size, size, x, 0, false},
		{0, 0, 0, 0, false},
		{2 * size, size, 0, 0, false},
		{end, 0, 0, 0, false},
		{end, end, 7, 0, false},
		{size, 2 * size, 8, size, true},
		{size, 2 * size, r | 8, size, true},
		{4 * size, 5 * size, -1, 4 * size, true},
		{4 * size, 5 * size, 7, 0, false},
		{4 * size, 5 * size, math.MinInt, 4 * size, true},
	}
	for _, c := range cases {
		got, ok := l.First(c.start, c.end, c.prot)
		if got != c.want || ok != c.ok {
			t.Errorf("First(%#x, %#x, %d): %#x %v, not %#x %v", c.start, c.end, c.prot, got, ok, c.want, c.ok)
		}
	}
}

func TestFirstOfNothing(t *testing.T) {
	at, bad := New().First(0, 1, 0)
	wantPlace(t, "First", at, bad, 0, true)
	at, bad = New().First(9, end, r)
	wantPlace(t, "First", at, bad, 9, true)
}

func TestRoom(t *testing.T) {
	l := listOf(t, reg(3, 5, r), reg(5, 6, w), reg(9, 10, 0), reg(20, 30, r))
	cases := []struct {
		size, below uint64
		want        uint64
		ok          bool
	}{
		{size, 40 * size, 39, true},
		{10 * size, 40 * size, 30, true},
		{10*size + 1, 40 * size, 0, false},
		{11 * size, 41 * size, 30, true},
		{10 * size, 30 * size, 10, true},
		{10 * size, 25 * size, 10, true},
		{10 * size, 20 * size, 10, true},
		{10 * size, 20*size - 1, 0, false},
		{9 * size, 20*size - 1, 10, true},
		{3 * size, 12 * size, 6, true},
		{2 * size, 12 * size, 10, true},
		{2 * size, 10 * size, 7, true},
		{3 * size, 9 * size, 6, true},
		{4 * size, 9 * size, 0, false},
		{2 * size, 8 * size, 6, true},
		{2 * size, 7 * size, 1, true},
		{size, 7 * size, 6, true},
		{size, 6 * size, 2, true},
		{2 * size, 6 * size, 1, true},
		{2*size + 1, 6 * size, 0, false},
		{size, 2*size + 5, 1, true},
		{size, 2 * size, 1, true},
		{size, 2*size - 1, 0, false},
		{size, size, 0, false},
		{1, 0, 0, false},
		{0, 0, 0, false},
		{0, 40 * size, 39, true},
		{1, 40 * size, 39, true},
		{size - 1, 40*size + size - 1, 39, true},
		{size + 1, 40 * size, 38, true},
		{2*size - 1, 40*size + 1, 38, true},
		{0, 2 * size, 1, true},
	}
	for _, c := range cases {
		got, ok := l.Room(c.size, c.below)
		if got != c.want*size || ok != c.ok {
			t.Errorf("Room(%#x, %#x): %#x %v, not %#x %v", c.size, c.below, got, ok, c.want*size, c.ok)
		}
	}
}

func TestRoomAtTheEnds(t *testing.T) {
	cases := []struct {
		size, below uint64
		want        uint64
		ok          bool
	}{
		{size, top, top - size, true},
		{size, top + 1, top - size, true},
		{size, top + size, top - size, true},
		{size, end, top - size, true},
		{top - size, top, size, true},
		{top - size - 1, top, size, true},
		{top - size, top - 1, 0, false},
		{top - size + 1, top, 0, false},
		{top, top, 0, false},
		{top, end, 0, false},
		{top + 1, end, 0, false},
		{end - size + 1, end, 0, false},
		{end - size + 2, end, 0, false},
		{end, end, 0, false},
		{1 << 63, end, 0, false},
	}
	for _, c := range cases {
		got, ok := New().Room(c.size, c.below)
		if got != c.want || ok != c.ok {
			t.Errorf("Room(%#x, %#x): %#x %v, not %#x %v", c.size, c.below, got, ok, c.want, c.ok)
		}
	}
	at, ok := listOf(t, reg(0, top/size, 0)).Room(1, end)
	wantPlace(t, "Room of a full space", at, ok, 0, false)
	at, ok = listOf(t, reg(2, top/size, 0)).Room(1, end)
	wantPlace(t, "Room of one page", at, ok, size, true)
	at, ok = listOf(t, reg(1, top/size, 0)).Room(1, end)
	wantPlace(t, "Room of the first page alone", at, ok, 0, false)
}

func TestFree(t *testing.T) {
	l := listOf(t, reg(2, 4, r), reg(6, 7, 0))
	cases := []struct {
		from, to uint64
		want     bool
	}{
		{0, 1, true}, {0, 2, true}, {1, 2, true}, {0, 3, false}, {2, 3, false}, {2, 4, false}, {3, 4, false}, {3, 5, false},
		{1, 5, false}, {4, 5, true}, {4, 6, true}, {5, 7, false}, {6, 7, false}, {4, 9, false}, {7, 8, true},
		{7, top / size, true}, {top/size - 1, top / size, true}, {0, top / size, false},
	}
	for _, c := range cases {
		if got := l.Free(c.from*size, c.to*size); got != c.want {
			t.Errorf("Free of %d to %d: %v", c.from, c.to, got)
		}
	}
	if !New().Free(0, top) {
		t.Error("a new list is not free")
	}
}

func TestPages(t *testing.T) {
	l := New()
	for _, c := range []struct {
		one  api.Region
		want int
	}{{reg(0, 1, r), 1}, {reg(0, 1, w), 1}, {reg(5, 9, 0), 5}, {reg(8, 10, r), 6}, {reg(0, top/size, r), api.Top / api.PageSize}} {
		l.Map(c.one.Start, c.one.End, c.one.Prot)
		if got := l.Pages(); got != c.want {
			t.Errorf("%d pages, not %d", got, c.want)
		}
	}
}

// P7.3, and rule R4.

func TestCopy(t *testing.T) {
	l := listOf(t, reg(1, 2, r), reg(4, 6, w))
	twin := l.Copy()
	wantAll(t, twin, reg(1, 2, r), reg(4, 6, w))
	l.Map(4*size, 5*size, x)
	l.Map(2*size, 3*size, r)
	wantAll(t, twin, reg(1, 2, r), reg(4, 6, w))
	twin.Unmap(0, top)
	wantAll(t, l, reg(1, 3, r), reg(4, 5, x), reg(5, 6, w))
	twin = New().Copy()
	wantAll(t, twin)
	wantErr(t, "Map", twin.Map(0, size, r), api.OK)
}

func TestAnswersAreNewMemory(t *testing.T) {
	l := listOf(t, reg(1, 2, r), reg(4, 6, w))
	all := l.All()
	all[0].End, all[1].Prot = 3*size, 7
	_ = append(all[:1], reg(7, 8, r))
	wantAll(t, l, reg(1, 2, r), reg(4, 6, w))
	all = l.All()
	l.Map(2*size, 3*size, r)
	l.Map(4*size, 6*size, x)
	if !slices.Equal(all, []api.Region{reg(1, 2, r), reg(4, 6, w)}) {
		t.Errorf("an answer changed: %x", all)
	}
}

func TestZeroListIsNew(t *testing.T) {
	l := &List{}
	wantAll(t, l)
	if !l.Free(0, top) {
		t.Error("not free")
	}
	at, ok := l.Room(1, top)
	wantPlace(t, "Room", at, ok, top-size, true)
	wantErr(t, "Unmap", l.Unmap(0, size), api.OK)
	wantErr(t, "Map", l.Map(0, size, r), api.OK)
	wantAll(t, l, reg(0, 1, r))
}

func TestNil(t *testing.T) {
	var l *List
	wantErr(t, "Map", l.Map(0, size, r), api.EINVAL)
	wantErr(t, "Unmap", l.Unmap(0, size), api.EINVAL)
	wantErr(t, "Protect", l.Protect(0, size, r), api.EINVAL)
	if got, ok := l.At(0); ok || got != (api.Region{}) {
		t.Errorf("At: %v %v", got, ok)
	}
	at, ok := l.First(5, 6, 0)
	wantPlace(t, "First", at, ok, 0, false)
	at, ok = l.Room(1, top)
	wantPlace(t, "Room", at, ok, 0, false)
	if l.Free(0, size) || len(l.All()) != 0 || l.Pages() != 0 || l.Copy() != nil {
		t.Error("a nil list answers something")
	}
}

// All of it, held against a plain array of pages.

const modelPages = 24

// model holds 0 of each page that is not mapped, else its prot and 1.
type model [modelPages]int

func (m *model) all() []api.Region {
	var out []api.Region
	for i, held := range m {
		switch {
		case held == 0:
		case i > 0 && m[i-1] == held:
			out[len(out)-1].End += size
		default:
			out = append(out, reg(uint64(i), uint64(i+1), held-1))
		}
	}
	return out
}

func (m *model) at(addr uint64) int {
	if addr/size < modelPages {
		return m[addr/size]
	}
	return 0
}

func (m *model) first(start, end uint64, prot int) (uint64, bool) {
	for ; start < end; start++ {
		if held := m.at(start); held == 0 || (held-1)&prot != prot {
			return start, true
		}
	}
	return 0, false
}

func (m *model) free(from, to uint64) bool {
	for i := from; i < to; i++ {
		if m.at(i*size) != 0 {
			return false
		}
	}
	return true
}

func (m *model) room(pages, below uint64) (uint64, bool) {
	for from := below; from >= 1; from-- {
		if from+pages <= below && m.free(from, from+pages) {
			return from * size, true
		}
	}
	return 0, false
}

func TestAgainstModel(t *testing.T) {
	rnd := rand.New(rand.NewSource(7))
	for range 60 {
		l, m := New(), &model{}
		for range 60 {
			step(t, rnd, l, m)
			ask(t, rnd, l, m)
			if t.Failed() {
				return
			}
		}
	}
}

// step changes the list and the model alike.
func step(t *testing.T, rnd *rand.Rand, l *List, m *model) {
	t.Helper()
	from := rnd.Intn(modelPages)
	to := from + 1 + rnd.Intn(modelPages-from)
	prot := rnd.Intn(3)
	start, stop := uint64(from)*size, uint64(to)*size
	set := prot + 1
	switch rnd.Intn(3) {
	case 0:
		wantErr(t, "Map", l.Map(start, stop, prot), api.OK)
	case 1:
		wantErr(t, "Unmap", l.Unmap(start, stop), api.OK)
		set = 0
	default:
		if _, hole := m.first(start, stop, 0); hole {
			wantErr(t, "Protect", l.Protect(start, stop, prot), api.ENOMEM)
			return
		}
		wantErr(t, "Protect", l.Protect(start, stop, prot), api.OK)
	}
	for i := from; i < to; i++ {
		m[i] = set
	}
}

// ask asks the list and the model alike.
func ask(t *testing.T, rnd *rand.Rand, l *List, m *model) {
	t.Helper()
	wantAll(t, l, m.all()...)
	a, b := uint64(rnd.Intn(int((modelPages+2)*size))), uint64(rnd.Intn(int((modelPages+2)*size)))
	prot := rnd.Intn(4)
	got, ok := l.First(a, b, prot)
	want, wantOk := m.first(a, b, prot)
	wantPlace(t, "First", got, ok, want, wantOk)
	got, ok = l.Room(a/4, b)
	want, wantOk = m.room(max((a/4+size-1)/size, 1), b/size)
	wantPlace(t, "Room", got, ok, want, wantOk)
	if from, to := a/size, b/size; l.Free(from*size, to*size) != (from < to && m.free(from, to)) {
		t.Errorf("Free of %d to %d", from, to)
	}
	in, ok := l.At(a)
	if held := m.at(a); ok != (held != 0) || ok && (in.Prot != held-1 || a < in.Start || a >= in.End || !slices.Contains(l.All(), in)) {
		t.Errorf("At(%#x): %x %v", a, in, ok)
	}
}
