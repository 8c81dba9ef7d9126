package mem

import (
	"marionette/api"
	"marionette/word"
)

// Load answers the number of n bytes from addr on, the lowest first, or the fault of the first place that may not be read.
func (s *Space) Load(addr uint64, n int) (uint64, api.Fault) {
	if f := s.fault(api.FaultLoad, addr, n, api.ProtR); f.Kind != 0 {
		return 0, f
	}
	return s.number(addr, n), api.Fault{}
}

// Store lays the n lowest bytes of x from addr on, the lowest first, or answers the fault of the first place that may not be written.
func (s *Space) Store(addr uint64, n int, x uint64) api.Fault {
	if f := s.Probe(addr, n); f.Kind != 0 {
		return f
	}
	s.data.Write(addr, word.Put(nil, x, n))
	return api.Fault{}
}

// Probe answers the fault that Store would have.
func (s *Space) Probe(addr uint64, n int) api.Fault {
	return s.fault(api.FaultStore, addr, n, api.ProtW)
}

// Fetch answers the instruction's word at addr, of 16 bits or of 32, or the fault of the first place that may not be fetched.
func (s *Space) Fetch(addr uint64) (uint32, api.Fault) {
	if addr%2 != 0 {
		return 0, api.Fault{Kind: api.FaultFetch, Addr: addr}
	}
	lower, f := s.half(addr)
	if f.Kind != 0 || lower&3 != 3 {
		return lower, f
	}
	upper, f := s.half(addr + 2)
	if f.Kind != 0 {
		return 0, f
	}
	return upper<<16 | lower, api.Fault{}
}

// half answers the two bytes at addr for Fetch, which asks for the upper ones only where the lower ones tell that there are some.
func (s *Space) half(addr uint64) (uint32, api.Fault) {
	if f := s.fault(api.FaultFetch, addr, 2, api.ProtX); f.Kind != 0 {
		return 0, f
	}
	return uint32(s.number(addr, 2)), api.Fault{}
}

// number answers n bytes from addr on as a number, whatever may be done there.
func (s *Space) number(addr uint64, n int) uint64 {
	return word.Get(s.data.Read(addr, n), n)
}

// fault answers the fault of the first of n places from addr on that lacks prot; of addr where a word has not n bytes, or there is no space.
func (s *Space) fault(kind int, addr uint64, n, prot int) api.Fault {
	if s == nil || !isWidth(n) {
		return api.Fault{Kind: kind, Addr: addr}
	}
	at, bad := s.lacking(addr, n, prot)
	if !bad {
		return api.Fault{}
	}
	return api.Fault{Kind: kind, Addr: at}
}

// lacking answers the first of n places from addr on that is not mapped with all of prot, and whether there is one.
func (s *Space) lacking(addr uint64, n, prot int) (uint64, bool) {
	// Nothing is mapped beyond Top, so that such a place is met before places go on from 2^64 - 1 to 0.
	if n > 0 && addr >= api.Top {
		return addr, true
	}
	return s.First(addr, addr+uint64(n), prot)
}

// isWidth: may a word of n bytes be loaded and stored?
func isWidth(n int) bool {
	return n == 1 || n == 2 || n == 4 || n == 8
}
