package mem

import (
	"bytes"
	"math/rand"
	"testing"

	"marionette/api"
)

// plain is a space told as plainly as can be: the mapped pages by their numbers, and one byte after the other.
type plain struct {
	pages     map[uint64]*plainPage
	most      int
	base, end uint64
}

type plainPage struct {
	prot int
	b    [api.PageSize]byte
}

func (m *plain) at(addr uint64) *plainPage {
	if addr >= top {
		return nil
	}
	return m.pages[addr/size]
}

func (m *plain) may(addr uint64, prot int) bool {
	p := m.at(addr)
	return p != nil && p.prot&prot == prot
}

func (m *plain) byteAt(addr uint64) byte {
	if p := m.at(addr); p != nil {
		return p.b[addr%size]
	}
	return 0
}

func (m *plain) set(addr uint64, b byte) {
	if p := m.at(addr); p != nil {
		p.b[addr%size] = b
	}
}

// free: is nothing of n pages from the page first on mapped, and all of it below Top?
func (m *plain) free(first, n uint64) bool {
	for i := range n {
		if first+i >= top/size || m.pages[first+i] != nil {
			return false
		}
	}
	return true
}

// regions counts runs of pages that are mapped alike.
func (m *plain) regions() int {
	n := 0
	for number, p := range m.pages {
		before := m.pages[number-1]
		if number == 0 || before == nil || before.prot != p.prot {
			n++
		}
	}
	return n
}

func (m *plain) mapAt(addr, n uint64, prot int, fixed bool) (uint64, api.Errno) {
	count := (n + size - 1) / size
	first := addr / size
	if fixed && first+count > top/size {
		return 0, api.EINVAL
	}
	if !fixed && (addr == 0 || !m.free(first, count)) {
		first = mapTop/size - count
		for !m.free(first, count) {
			first--
		}
	}
	added := 0
	for i := range count {
		if m.pages[first+i] == nil {
			added++
		}
	}
	if len(m.pages)+added > m.most {
		return 0, api.ENOMEM
	}
	for i := range count {
		m.pages[first+i] = &plainPage{prot: prot}
	}
	return first * size, api.OK
}

func (m *plain) unmap(addr, n uint64) api.Errno {
	count := (n + size - 1) / size
	if count == 0 || addr/size+count > top/size {
		return api.EINVAL
	}
	for i := range count {
		delete(m.pages, addr/size+i)
	}
	return api.OK
}

func (m *plain) protect(addr, n uint64, prot int) api.Errno {
	count := (n + size - 1) / size
	if count == 0 || addr/size+count > top/size {
		return api.EINVAL
	}
	for i := range count {
		if m.pages[addr/size+i] == nil {
			return api.ENOMEM
		}
	}
	for i := range count {
		m.pages[addr/size+i].prot = prot
	}
	return api.OK
}

func (m *plain) brk(n uint64) uint64 {
	if n < m.base || n > top {
		return m.end
	}
	was, now := (m.end+size-1)/size, (n+size-1)/size
	if now > was && (len(m.pages)+int(now-was) > m.most || !m.free(was, now-was)) {
		return m.end
	}
	for p := was; p < now; p++ {
		m.pages[p] = &plainPage{prot: r | w}
	}
	for p := now; p < was; p++ {
		delete(m.pages, p)
	}
	m.end = n
	return n
}

func (m *plain) fault(kind int, addr uint64, n, prot int) api.Fault {
	for i := range uint64(n) {
		if !m.may(addr+i, prot) {
			return api.Fault{Kind: kind, Addr: addr + i}
		}
	}
	return api.Fault{}
}

func (m *plain) number(addr uint64, n int) uint64 {
	x := uint64(0)
	for i := range n {
		x |= uint64(m.byteAt(addr+uint64(i))) << (8 * i)
	}
	return x
}

func (m *plain) fetch(addr uint64) (uint32, api.Fault) {
	if addr%2 == 1 {
		return 0, api.Fault{Kind: api.FaultFetch, Addr: addr}
	}
	n := 2
	if f := m.fault(api.FaultFetch, addr, n, x); f.Kind != 0 {
		return 0, f
	}
	if m.byteAt(addr)&3 == 3 {
		n = 4
	}
	if f := m.fault(api.FaultFetch, addr, n, x); f.Kind != 0 {
		return 0, f
	}
	return uint32(m.number(addr, n)), api.Fault{}
}

func (m *plain) check(addr uint64, n, prot int) api.Errno {
	if m.fault(1, addr, n, prot).Kind != 0 {
		return api.EFAULT
	}
	return api.OK
}

func (m *plain) text(addr uint64, most int) (string, api.Errno) {
	var b []byte
	for i := range uint64(most) {
		if !m.may(addr+i, r) {
			return "", api.EFAULT
		}
		if m.byteAt(addr+i) == 0 {
			return string(b), api.OK
		}
		b = append(b, m.byteAt(addr+i))
	}
	return "", api.ENAMETOOLONG
}

// trial holds a space against a plain one, call by call.
type trial struct {
	*rand.Rand
	t *testing.T
	s *Space
	m *plain
}

// aligned is a page's beginning, where much happens: in the first pages, around MapTop, at Top.
func (r *trial) aligned() uint64 {
	switch r.Intn(8) {
	case 0:
		return mapTop - 8*size + uint64(r.Intn(12))*size
	case 1:
		return top - 4*size + uint64(r.Intn(6))*size
	default:
		return uint64(r.Intn(12)) * size
	}
}

func (r *trial) place() uint64 {
	switch r.Intn(4) {
	case 0:
		return r.aligned() + uint64(r.Intn(20)) - 10
	case 1:
		return r.aligned() + uint64(r.Intn(api.PageSize))
	default:
		return r.aligned() + 4*uint64(r.Intn(12))
	}
}

func (r *trial) sizeOfSome() uint64 {
	return uint64(r.Intn(4))*size + uint64(r.Intn(3))
}

func (r *trial) same(name string, got, want any) {
	if got != want {
		r.t.Fatalf("%s: %x, not %x", name, got, want)
	}
}

func (r *trial) mapSomething() {
	addr, n, prot := r.aligned(), r.sizeOfSome(), r.Intn(8)
	switch r.Intn(6) {
	case 0, 1:
		fixed := r.Intn(2) == 0
		if n == 0 {
			n = 1
		}
		at, e := r.s.Map(addr, n, prot, fixed)
		wantAt, wantErr := r.m.mapAt(addr, n, prot, fixed)
		r.same("Map", [2]uint64{at, uint64(e)}, [2]uint64{wantAt, uint64(wantErr)})
	case 2:
		r.same("Unmap", r.s.Unmap(addr, n), r.m.unmap(addr, n))
	case 3:
		r.same("Protect", r.s.Protect(addr, n, prot), r.m.protect(addr, n, prot))
	case 4:
		to := r.place()
		r.same("Brk", r.s.Brk(to), r.m.brk(to))
	case 5:
		if r.Intn(8) == 0 && addr <= top {
			r.s.SetBrk(addr)
			r.m.base, r.m.end = addr, addr
		}
	}
}

func (r *trial) write() {
	addr, b := r.place(), make([]byte, r.Intn(6000))
	r.Read(b)
	switch r.Intn(3) {
	case 0:
		n := 1 << r.Intn(4)
		x := r.Uint64()
		f := r.m.fault(api.FaultStore, addr, n, w)
		r.same("Probe", r.s.Probe(addr, n), f)
		r.same("Store", r.s.Store(addr, n, x), f)
		for i := range n {
			if f.Kind == 0 {
				r.m.set(addr+uint64(i), byte(x>>(8*i)))
			}
		}
		return
	case 1:
		e := r.m.check(addr, len(b), w)
		r.same("Out", r.s.Out(addr, b), e)
		if e != api.OK {
			return
		}
	case 2:
		r.s.Put(addr, b)
	}
	for i := range b {
		r.m.set(addr+uint64(i), b[i])
	}
}

func (r *trial) ask() {
	addr, n := r.place(), r.Intn(6000)
	switch r.Intn(5) {
	case 0:
		n = 1 << r.Intn(4)
		got, f := r.s.Load(addr, n)
		want := r.m.fault(api.FaultLoad, addr, n, api.ProtR)
		r.same("Load", f, want)
		if want.Kind == 0 {
			r.same("Load", got, r.m.number(addr, n))
		}
	case 1:
		got, f := r.s.Fetch(addr)
		want, wantFault := r.m.fetch(addr)
		r.same("Fetch", f, wantFault)
		r.same("Fetch", got, want)
	case 2:
		prot := r.Intn(8)
		r.same("Check", r.s.Check(addr, n, prot), r.m.check(addr, n, prot))
	case 3:
		got, e := r.s.Text(addr, n)
		want, wantErr := r.m.text(addr, n)
		r.same("Text", e, wantErr)
		r.same("Text", got, want)
	case 4:
		got, e := r.s.In(addr, n)
		r.same("In", e, r.m.check(addr, n, api.ProtR))
		for i := range got {
			r.same("In", got[i], r.m.byteAt(addr+uint64(i)))
		}
	}
}

// look holds all pages where something may be against each other.
func (r *trial) look() {
	r.same("Pages", r.s.Pages(), len(r.m.pages))
	r.same("Regions", len(r.s.Regions()), r.m.regions())
	for _, one := range r.s.Regions() {
		for addr := one.Start; addr < one.End; addr += size {
			p := r.m.at(addr)
			if p == nil || p.prot != one.Prot {
				r.t.Fatalf("region %x: not so at %x", one, addr)
			}
			if !bytes.Equal(r.s.Peek(addr, api.PageSize), p.b[:]) {
				r.t.Fatalf("other bytes at %x", addr)
			}
		}
	}
	r.same("Brk", r.s.Brk(end), r.m.end)
}

func TestAgainstPlainSpace(t *testing.T) {
	for seed := range int64(40) {
		most := []int{3, 10, 40, 1000}[seed%4]
		r := &trial{rand.New(rand.NewSource(seed)), t, New(most), &plain{pages: map[uint64]*plainPage{}, most: most}}
		for step := range 1500 {
			switch r.Intn(3) {
			case 0:
				r.mapSomething()
			case 1:
				r.write()
			case 2:
				r.ask()
			}
			if step%50 == 0 {
				r.look()
				r.s = r.s.Copy()
			}
		}
		r.look()
	}
}
