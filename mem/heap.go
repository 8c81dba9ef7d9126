package mem

import "marionette/api"

// SetBrk lays the heap's beginning, and its end, at base, rounded up to a page's beginning; nothing where base is above Top.
func (s *Space) SetBrk(base uint64) {
	if s == nil || base > api.Top {
		return
	}
	s.base = up(base)
	s.end = s.base
}

// Brk moves the heap's end to n, if that may be, and answers where the heap ends then.
func (s *Space) Brk(n uint64) uint64 {
	if s == nil {
		return 0
	}
	if n >= s.base && n <= api.Top && s.resize(up(s.end), up(n)) {
		s.end = n
	}
	return s.end
}

// resize moves the end of the heap's pages from was to now, and answers whether that may be.
func (s *Space) resize(was, now uint64) bool {
	switch {
	case now > was:
		return s.Free(was, now) && s.lay(was, now, api.ProtR|api.ProtW) == api.OK
	case now < was:
		return s.Unmap(now, was-now) == api.OK
	}
	return true
}
