package elf

import (
	"bytes"
	stdelf "debug/elf"
	"encoding/binary"
	"errors"
	"math"
	"math/rand"
	"reflect"
	"slices"
	"testing"

	"marionette/api"
)

const page = api.PageSize

// rx and rw are flags of a program's code and of its data.
const (
	rx = flagR | flagX
	rw = flagR | flagW
)

// plan is a file to be made: its numbers, and how many bytes it has.
type plan struct {
	head  stdelf.Header64
	parts []stdelf.Prog64
	size  int
}

// newPlan is one of a sound program with the parts, and its table right behind the head.
func newPlan(entry uint64, size int, parts ...stdelf.Prog64) plan {
	h := stdelf.Header64{
		Ident: [16]byte{127, 'E', 'L', 'F', 2, 1, 1},
		Type:  2, Machine: 243, Version: 1, Entry: entry,
		Phoff: 64, Ehsize: 64, Phentsize: 56, Phnum: uint16(len(parts)),
	}
	return plan{h, parts, size}
}

// file makes the bytes; whatever of the table does not lie in them is left out.
func (p plan) file() []byte {
	b := make([]byte, p.size)
	copy(b, laid(p.head))
	if p.head.Phoff < uint64(len(b)) {
		copy(b[p.head.Phoff:], laid(p.parts))
	}
	return b
}

func laid(x any) []byte {
	var b bytes.Buffer
	if err := binary.Write(&b, binary.LittleEndian, x); err != nil {
		panic(err)
	}
	return b.Bytes()
}

// load is a part to be loaded.
func load(flags uint32, off, addr, length, size uint64) stdelf.Prog64 {
	return stdelf.Prog64{Type: 1, Flags: flags, Off: off, Vaddr: addr, Paddr: 77, Filesz: length, Memsz: size, Align: 99}
}

// code and data are two segments of a usual program of 10000 bytes.
func code() stdelf.Prog64 { return load(rx, 0, 0x10000, 6000, 6000) }
func data() stdelf.Prog64 { return load(rw, 6000, 0x13000+6000%page, 4000, 9000) }

func usual() plan { return newPlan(0x10100, 10000, code(), data()) }

func wantProgram(t *testing.T, name string, b []byte, want api.Program) {
	t.Helper()
	if p, e := Parse(b); e != api.OK || !reflect.DeepEqual(p, want) {
		t.Errorf("%s: %+v, %d, want %+v", name, p, e, want)
	}
}

func wantErrno(t *testing.T, name string, b []byte, want api.Errno) {
	t.Helper()
	if p, e := Parse(b); e != want || !reflect.DeepEqual(p, api.Program{}) {
		t.Errorf("%s: %+v, %d, want nothing and %d", name, p, e, want)
	}
}

// wantSound: Parse refuses it not.
func wantSound(t *testing.T, name string, p plan) api.Program {
	t.Helper()
	got, e := Parse(p.file())
	if e != api.OK {
		t.Errorf("%s: %d", name, e)
	}
	return got
}

// P12.1: what a file tells.

func TestUsualProgram(t *testing.T) {
	wantProgram(t, "usual", usual().file(), api.Program{
		Entry: 0x10100,
		Segments: []api.Segment{
			{Addr: 0x10000, Size: 6000, Off: 0, Len: 6000, Prot: api.ProtR | api.ProtX},
			{Addr: 0x13000 + 6000%page, Size: 9000, Off: 6000, Len: 4000, Prot: api.ProtR | api.ProtW},
		},
		Phdr: 0x10040, PhNum: 2, PhSize: 56,
	})
}

func TestFlagsGivePermissions(t *testing.T) {
	for flags := range uint32(16) {
		p := usual()
		p.parts[1].Flags = flags | 0xabcd0000
		want := 0
		for bit, prot := range map[uint32]int{4: api.ProtR, 2: api.ProtW, 1: api.ProtX} {
			if flags&bit != 0 {
				want += prot
			}
		}
		if got := wantSound(t, "flags", p); len(got.Segments) == 2 && got.Segments[1].Prot != want {
			t.Errorf("flags %d: %d, want %d", flags, got.Segments[1].Prot, want)
		}
	}
}

func TestWhatIsPassedOver(t *testing.T) {
	want, _ := Parse(usual().file())
	b := usual().file()
	for _, at := range [][2]int{{7, 16}, {40, 52}, {58, 64}, {64 + 24, 64 + 32}, {64 + 48, 64 + 56}} {
		for i := at[0]; i < at[1]; i++ {
			b[i] ^= 0xff
		}
	}
	wantProgram(t, "passed over", b, want)
}

func TestOtherEntriesAreNoSegments(t *testing.T) {
	for _, kind := range []uint32{0, 2, 4, 5, 6, 0x101, 0x6474e551, math.MaxUint32} {
		other := stdelf.Prog64{Type: kind, Off: math.MaxUint64, Vaddr: 1, Filesz: 9, Memsz: 3}
		empty := stdelf.Prog64{Type: 1, Off: math.MaxUint64, Vaddr: 1, Filesz: 9}
		got := wantSound(t, "others", newPlan(0x10100, 10000, other, code(), empty, data(), other))
		if want, _ := Parse(usual().file()); !slices.Equal(got.Segments, want.Segments) || got.PhNum != 5 {
			t.Errorf("kind %d: %+v", kind, got)
		}
	}
}

func TestWhereTheTableIs(t *testing.T) {
	for _, one := range []struct {
		name              string
		table, off, bytes uint64
		want              uint64
	}{
		{"at a segment's beginning", 4096, 4096, 112, 0x20000},
		{"at its end", 4196, 4096, 212, 0x20064},
		{"a byte too far", 4197, 4096, 212, 0},
		{"ahead of it", 4095, 4096, 5000, 0},
		{"before all", 64, 4096, 5000, 0},
		{"behind all", 6000, 4096, 1904, 0},
	} {
		p := newPlan(0x20000, 10000, load(rx, one.off, 0x20000, one.bytes, 6000), stdelf.Prog64{Type: 6})
		p.head.Phoff = one.table
		if got := wantSound(t, one.name, p); got.Phdr != one.want {
			t.Errorf("%s: %#x, want %#x", one.name, got.Phdr, one.want)
		}
	}
}

func TestTableInMoreThanOneSegment(t *testing.T) {
	for _, one := range []struct {
		name   string
		len    [3]uint64
		places [3]uint64
		want   uint64
	}{
		{"all have it", [3]uint64{500, 500, 500}, [3]uint64{0x10000, 0x20000, 0x30000}, 0x10040},
		{"the first has some", [3]uint64{64 + 167, 64 + 168, 500}, [3]uint64{0x10000, 0x20000, 0x30000}, 0x20040},
		{"none has it in its part of the file", [3]uint64{64, 65, 231}, [3]uint64{0x10000, 0x20000, 0x30000}, 0},
	} {
		p := newPlan(0x10000, 500)
		for i := range one.len {
			p.parts = append(p.parts, load(rx, 0, one.places[i], one.len[i], 500))
		}
		p.head.Phnum = 3
		if got := wantSound(t, one.name, p); got.Phdr != one.want {
			t.Errorf("%s: %#x, want %#x", one.name, got.Phdr, one.want)
		}
	}
}

// P12.1: ENOEXEC.

func TestNoHead(t *testing.T) {
	wantErrno(t, "nil", nil, api.ENOEXEC)
	wantErrno(t, "no bytes", []byte{}, api.ENOEXEC)
	for n := range 64 + 112 {
		wantErrno(t, "cut off", usual().file()[:n], api.ENOEXEC)
	}
}

func TestEachBitOfTheHeadThatIsFixed(t *testing.T) {
	for _, at := range [][2]int{{0, 7}, {16, 24}, {52, 56}} {
		for i := at[0] * 8; i < at[1]*8; i++ {
			b := usual().file()
			b[i/8] ^= 1 << (i % 8)
			wantErrno(t, "a bit of the head", b, api.ENOEXEC)
		}
	}
}

func TestSizeOfTheFile(t *testing.T) {
	p := usual()
	p.size = api.MaxFile
	wantSound(t, "MaxFile bytes", p)
	p.size++
	wantErrno(t, "a byte too many", p.file(), api.ENOEXEC)
}

func TestHowManyEntries(t *testing.T) {
	for _, n := range []int{0, 1, 63, 64, 65, 256, 257, math.MaxUint16} {
		p := newPlan(0x10100, 64+56*n+6000, code())
		p.head.Phnum = uint16(n)
		if n < 1 || n > 64 {
			wantErrno(t, "count", p.file(), api.ENOEXEC)
		} else if got := wantSound(t, "count", p); got.PhNum != n {
			t.Errorf("%d entries: %d", n, got.PhNum)
		}
	}
}

func TestTableBeyondTheEnd(t *testing.T) {
	p := usual()
	p.head.Phoff = 10000 - 112
	wantSound(t, "at the end", p)
	for _, at := range []uint64{10000 - 111, 10000 - 56, 10000, 10001, 1 << 32, 1<<64 - 112, 1<<64 - 56, 1<<64 - 1, 1 << 63} {
		p.head.Phoff = at
		wantErrno(t, "beyond", p.file(), api.ENOEXEC)
	}
}

func TestTableOverTheHead(t *testing.T) {
	// The entry that begins where the head begins has another kind: there is no segment.
	p := usual()
	p.head.Phoff, p.head.Phnum, p.parts = 0, 1, nil
	wantErrno(t, "over the head", p.file(), api.EINVAL)
	p.size, p.head.Phoff = 64, 8
	wantErrno(t, "nothing but a head", p.file(), api.EINVAL)
	p.head.Phoff = 9
	wantErrno(t, "a byte beyond it", p.file(), api.ENOEXEC)
}

func TestWhichErrorGoesFirst(t *testing.T) {
	p := usual()
	p.head.Entry = 1
	p.parts[0].Type = 3
	p.head.Machine = 62
	wantErrno(t, "another machine, and a loader", p.file(), api.ENOEXEC)
	p.head.Machine = 243
	wantErrno(t, "a loader", p.file(), api.EINVAL)
}

// P12.1: EINVAL.

func TestLoader(t *testing.T) {
	for _, size := range []uint64{0, 20} {
		for at := range 3 {
			p := usual()
			p.parts = slices.Insert(p.parts, at, stdelf.Prog64{Type: 3, Filesz: size, Memsz: size})
			p.head.Phnum = 3
			wantErrno(t, "a loader", p.file(), api.EINVAL)
		}
	}
}

func TestOneSegment(t *testing.T) {
	const end = api.MapTop
	for _, one := range []struct {
		name string
		s    stdelf.Prog64
		ok   bool
	}{
		{"as long in the file as in memory", load(rx, 0, 8192, 9000, 9000), true},
		{"longer in the file", load(rx, 0, 8192, 9001, 9000), false},
		{"nothing of it in the file", load(rx, 0, 8192, 0, 1), true},
		{"up to the file's end", load(rx, 4096, 8192, 10000-4096, 10000), true},
		{"a byte beyond it", load(rx, 4096, 8192, 10001-4096, 10000), false},
		{"empty, at the file's end", load(rx, 10000, 8192+10000%page, 0, 5), true},
		{"empty, behind it", load(rx, 10001, 8192+10001%page, 0, 5), false},
		{"begins far beyond it", load(rx, 1<<63, 8192, 1, 5), false},
		{"goes round in the file", load(rx, 1<<64-4096, 8192, 4097, 5000), false},
		{"all of the file and round", load(rx, 4096, 8192, 1<<64-4096, 1<<64-1), false},
		{"at PageSize", load(rx, 0, 4096, 100, 100), true},
		{"a page below it", load(rx, 0, 0, 100, 100), false},
		{"a byte below it", load(rx, 4095, 4095, 100, 100), false},
		{"up to MapTop", load(rx, 0, end-4096, 100, 4096), true},
		{"a byte above MapTop", load(rx, 0, end-4096, 100, 4097), false},
		{"all below MapTop", load(rx, 0, 4096, 100, end-4096), true},
		{"begins at MapTop", load(rx, 0, end, 0, 1), false},
		{"goes round in memory", load(rx, 0, 8192, 100, 1<<64-8192), false},
		{"goes round to above PageSize", load(rx, 0, 8192, 100, 1<<64-1), false},
		{"begins at the end of all places", load(rx, 0, 1<<64-4096, 100, 8192), false},
		{"as far in its page as in the file", load(rx, 100, 8192+100, 100, 100), true},
		{"a byte less far", load(rx, 100, 8192+99, 100, 100), false},
		{"by half a page", load(rx, 100, 8192+100+2048, 100, 100), false},
		{"further in the file than in memory", load(rx, 8292, 4196, 100, 100), true},
	} {
		p := newPlan(one.s.Vaddr+one.s.Vaddr%2, 10000, one.s)
		if !one.ok {
			wantErrno(t, one.name, p.file(), api.EINVAL)
			continue
		}
		want := api.Segment{Addr: one.s.Vaddr, Size: one.s.Memsz, Off: one.s.Off, Len: one.s.Filesz, Prot: 5}
		if got := wantSound(t, one.name, p); !slices.Equal(got.Segments, []api.Segment{want}) {
			t.Errorf("%s: %+v", one.name, got)
		}
	}
}

func TestPagesOfSegments(t *testing.T) {
	for _, one := range []struct {
		name string
		b, c stdelf.Prog64
		ok   bool
	}{
		{"the next page", load(rw, 0, 0x10000, 0, 4096), load(rw, 0, 0x11000, 0, 1), true},
		{"the same page", load(rw, 0, 0x10000, 0, 100), load(rw, 200, 0x10000+200, 0, 1), false},
		{"the last page", load(rw, 0, 0x10000, 0, 4097), load(rw, 200, 0x11000+200, 0, 1), false},
		{"a page between", load(rw, 0, 0x10000, 0, 9000), load(rw, 0, 0x11000, 0, 1), false},
		{"the next page, far in it", load(rw, 1, 0x10001, 0, 4095), load(rw, 4095, 0x11fff, 0, 1), true},
		{"the page that the last byte is in", load(rw, 1, 0x10001, 0, 4096), load(rw, 4095, 0x11fff, 0, 1), false},
		{"the page ahead", load(rw, 0, 0x10000, 0, 1), load(rw, 0, 0xf000, 0, 1), false},
		{"far ahead", load(rw, 0, 0x10000, 0, 1), load(rw, 0, 0x4000, 0, 1), false},
	} {
		for _, others := range [][]stdelf.Prog64{nil, {{Type: 4}}} {
			first := load(rx, 0, 0x3000, 100, 100)
			parts := append([]stdelf.Prog64{first, one.b}, others...)
			p := newPlan(0x3000, 10000, append(parts, one.c)...)
			if one.ok {
				wantSound(t, one.name, p)
			} else {
				wantErrno(t, one.name, p.file(), api.EINVAL)
			}
		}
	}
}

func TestHowManySegments(t *testing.T) {
	for n := range 65 {
		p := newPlan(0x10000, 10000)
		for i := range uint64(n) {
			p.parts = append(p.parts, load(rx, 0, 0x10000+i*page, 10, 10))
		}
		for len(p.parts) < 64 {
			p.parts = append(p.parts, stdelf.Prog64{Type: 1})
		}
		p.head.Phnum = 64
		if n < 1 || n > api.MaxSegs {
			wantErrno(t, "segments", p.file(), api.EINVAL)
		} else if got := wantSound(t, "segments", p); len(got.Segments) != n {
			t.Errorf("%d segments: %+v", n, got)
		}
	}
}

func TestEntry(t *testing.T) {
	for _, one := range []struct {
		entry uint64
		ok    bool
	}{
		{0, false}, {1, false}, {0x10100, false}, {1<<64 - 2, false}, {1 << 63, false},
		{0x20000, false}, {0x20062, false}, {0x20064, true}, {0x20065, false}, {0x20066, true},
		{0x20064 + 998, true}, {0x20064 + 999, false}, {0x20064 + 1000, false},
		{0x21000, false}, {0x22fff, false}, {0x23000, true}, {0x23001, false}, {0x23002, false}, {0x24000, false},
	} {
		p := newPlan(one.entry, 10000,
			load(rw, 0, 0x10000, 600, 6000), load(flagX, 100, 0x20064, 500, 1000), load(7, 0, 0x23000, 1, 2))
		if one.ok {
			if got := wantSound(t, "entry", p); got.Entry != one.entry {
				t.Errorf("entry %#x: %#x", one.entry, got.Entry)
			}
		} else {
			wantErrno(t, "entry", p.file(), api.EINVAL)
		}
	}
}

func TestWhyIsTold(t *testing.T) {
	p := usual()
	p.parts[0].Filesz++
	for _, one := range []struct {
		b         []byte
		why, none error
	}{{nil, errForm, errParts}, {p.file(), errParts, errForm}} {
		_, err := parse(one.b)
		var f *fault
		if !errors.As(err, &f) || f.what == "" || !errors.Is(err, one.why) || errors.Is(err, one.none) {
			t.Errorf("%v, want %v", err, one.why)
		} else if err.Error() != one.why.Error()+": "+f.what {
			t.Errorf("%q tells not why", err.Error())
		}
	}
	if number(nil) != api.OK {
		t.Error("nothing is a fault")
	}
}

// R4 and R5: nothing is shared, changed or kept.

func TestNothingIsSharedOrChanged(t *testing.T) {
	room := append(usual().file(), 1, 2, 3)
	b := room[:10000]
	was := slices.Clone(room)
	p, _ := Parse(b)
	want, _ := Parse(usual().file())
	p.Segments[0].Addr = 1
	p.Segments = append(p.Segments[:1], api.Segment{})
	wantProgram(t, "again", b, want)
	if !slices.Equal(room, was) {
		t.Error("the file was changed")
	}
	q, _ := Parse(b)
	clear(b)
	if !reflect.DeepEqual(q, want) {
		t.Error("the file was kept")
	}
}

// Random files, against a plain reading of the document.

func TestRandomFiles(t *testing.T) {
	r := rand.New(rand.NewSource(12))
	seen := map[api.Errno]int{}
	for range 60000 {
		b := randomFile(r)
		want, e := told(b)
		seen[e]++
		if e != api.OK {
			wantErrno(t, "random", b, e)
		} else {
			wantProgram(t, "random", b, want)
		}
		if t.Failed() {
			t.Fatalf("%x", b[:min(len(b), 600)])
		}
	}
	for _, e := range []api.Errno{api.OK, api.ENOEXEC, api.EINVAL} {
		if seen[e] < 2000 {
			t.Errorf("only %d of %d", seen[e], e)
		}
	}
}

func FuzzParse(f *testing.F) {
	f.Add([]byte{})
	f.Add(usual().file()[:300])
	f.Fuzz(func(t *testing.T, b []byte) {
		want, e := told(b)
		if p, got := Parse(b); got != e || !reflect.DeepEqual(p, want) {
			t.Errorf("%+v, %d, want %+v, %d", p, got, want, e)
		}
	})
}
