package elf

import (
	"bytes"
	stdelf "debug/elf"
	"encoding/binary"
	"math/big"
	"math/rand"

	"marionette/api"
)

// told reads the document's sentences one by one, with numbers of any length.
func told(b []byte) (api.Program, api.Errno) {
	var h stdelf.Header64
	if len(b) > 4194304 || !read(b, 0, &h) || !headAsTold(h) {
		return api.Program{}, api.ENOEXEC
	}
	parts := make([]stdelf.Prog64, h.Phnum)
	if len(parts) == 0 || len(parts) > 64 || !read(b, h.Phoff, parts) {
		return api.Program{}, api.ENOEXEC
	}
	list, ok := segmentsTold(parts, len(b))
	if !ok || len(list) == 0 || len(list) > 16 || h.Entry%2 == 1 {
		return api.Program{}, api.EINVAL
	}
	p := api.Program{Entry: h.Entry, Segments: list, PhNum: len(parts), PhSize: 56}
	found := false
	for _, s := range list {
		found = found || s.Prot >= 4 && inside(h.Entry, 1, s.Addr, s.Size)
		if p.Phdr == 0 && inside(h.Phoff, uint64(56*len(parts)), s.Off, s.Len) {
			p.Phdr = s.Addr - s.Off + h.Phoff
		}
	}
	if !found {
		return api.Program{}, api.EINVAL
	}
	return p, api.OK
}

// read: is all of x in b from at on? x is that then.
func read(b []byte, at uint64, x any) bool {
	if !inside(at, uint64(binary.Size(x)), 0, uint64(len(b))) {
		return false
	}
	return binary.Read(bytes.NewReader(b[at:]), binary.LittleEndian, x) == nil
}

func headAsTold(h stdelf.Header64) bool {
	return string(h.Ident[:7]) == "\x7fELF\x02\x01\x01" && h.Type == 2 && h.Machine == 243 && h.Version == 1 &&
		h.Ehsize == 64 && h.Phentsize == 56
}

func segmentsTold(parts []stdelf.Prog64, size int) ([]api.Segment, bool) {
	var list []api.Segment
	taken := -1
	for _, p := range parts {
		if p.Type == 3 {
			return nil, false
		}
		if p.Type != 1 || p.Memsz == 0 {
			continue
		}
		if p.Filesz > p.Memsz || !inside(p.Off, p.Filesz, 0, uint64(size)) ||
			!inside(p.Vaddr, p.Memsz, 4096, 1<<38-18*4096-4096) || p.Vaddr%4096 != p.Off%4096 {
			return nil, false
		}
		if int(p.Vaddr>>12) <= taken {
			return nil, false
		}
		taken = int((p.Vaddr + p.Memsz - 1) >> 12)
		prot := []int{0, 4, 2, 6, 1, 5, 3, 7}[p.Flags%8]
		list = append(list, api.Segment{Addr: p.Vaddr, Size: p.Memsz, Off: p.Off, Len: p.Filesz, Prot: prot})
	}
	return list, true
}

// inside: do size bytes from at on lie among the whole bytes from from on?
func inside(at, size, from, whole uint64) bool {
	a, end := number64(at), number64(at)
	end.Add(end, number64(size))
	last := number64(from)
	last.Add(last, number64(whole))
	return a.Cmp(number64(from)) >= 0 && end.Cmp(last) <= 0
}

func number64(x uint64) *big.Int { return new(big.Int).SetUint64(x) }

// randomFile is most often that of a sound program, with a number or two put wrong.
func randomFile(r *rand.Rand) []byte {
	size := 400 + r.Intn(9000)
	p := newPlan(0, size)
	at := uint64(1 + r.Intn(9))
	for range 1 + r.Intn(5) {
		s := randomPart(r, at, size)
		at = (s.Vaddr+s.Memsz-1)/page + 1 + uint64(r.Intn(3))
		p.parts = append(p.parts, s)
	}
	one := p.parts[r.Intn(len(p.parts))]
	p.head.Entry = one.Vaddr + uint64(r.Intn(int(one.Memsz)+1))
	p.head.Entry -= p.head.Entry % 2
	p.head.Phnum = uint16(len(p.parts))
	if r.Intn(3) == 0 {
		p.head.Phoff = uint64(r.Intn(size - 300))
		p.head.Phoff = max(p.head.Phoff, 64)
	}
	for range max(0, r.Intn(5)-2) {
		spoil(r, &p)
	}
	b := p.file()
	if r.Intn(8) == 0 {
		b[r.Intn(400)] ^= 1 << r.Intn(8)
	}
	return b
}

func randomPart(r *rand.Rand, at uint64, size int) stdelf.Prog64 {
	off := uint64(r.Intn(size))
	length := uint64(r.Intn(size - int(off) + 1))
	if r.Intn(2) == 0 {
		off, length = 0, uint64(size)
	}
	s := load(uint32(r.Intn(8)), off, at*page+off%page, length, length+1+uint64(r.Intn(3))*uint64(r.Intn(5000)))
	if r.Intn(8) == 0 {
		s.Type = uint32(r.Intn(8))
	}
	return s
}

// spoil puts one number at an edge, or a little beside where it was.
func spoil(r *rand.Rand, p *plan) {
	part := &p.parts[r.Intn(len(p.parts))]
	numbers := []*uint64{&part.Off, &part.Vaddr, &part.Filesz, &part.Memsz, &p.head.Entry, &p.head.Phoff}
	one := numbers[r.Intn(len(numbers))]
	edges := []uint64{0, 1, page, page - 1, api.MapTop, 1 << 63, 1<<64 - page, 1<<64 - 1, uint64(p.size), api.MapTop - part.Memsz, uint64(p.size) - part.Filesz, -part.Vaddr}
	switch r.Intn(4) {
	case 0:
		*one = edges[r.Intn(len(edges))]
	case 1:
		*one += uint64(r.Intn(5)) - 2
	case 2:
		*one += (uint64(r.Intn(5)) - 2) * page
	case 3:
		*one &= 1<<uint(r.Intn(40)) - 1
	}
}
