package mem

import (
	"bytes"

	"marionette/api"
)

// Check answers why n places from addr on may not all be used with prot.
func (s *Space) Check(addr uint64, n, prot int) api.Errno {
	if s == nil {
		return api.EFAULT
	}
	if n < 0 || n > api.MaxFile {
		return api.EINVAL
	}
	if _, bad := s.lacking(addr, n, prot); bad {
		return api.EFAULT
	}
	return api.OK
}

// In answers n bytes from addr on, if all of them may be read.
func (s *Space) In(addr uint64, n int) ([]byte, api.Errno) {
	if e := s.Check(addr, n, api.ProtR); e != api.OK {
		return nil, e
	}
	return s.Peek(addr, n), api.OK
}

// Out lays b at addr, if all places there may be written.
func (s *Space) Out(addr uint64, b []byte) api.Errno {
	if e := s.Check(addr, len(b), api.ProtW); e != api.OK {
		return e
	}
	s.data.Write(addr, b)
	return api.OK
}

// Text answers the bytes from addr on up to the first 0, which must be among the first most.
func (s *Space) Text(addr uint64, most int) (string, api.Errno) {
	if s == nil {
		return "", api.EFAULT
	}
	var text []byte
	for most > 0 {
		// Page by page, since what lies behind the first 0 need not be readable.
		n := min(most, restOfPage(addr))
		b, e := s.In(addr, n)
		if e != api.OK {
			return "", e
		}
		if i := bytes.IndexByte(b, 0); i >= 0 {
			return string(append(text, b[:i]...)), api.OK
		}
		text = append(text, b...)
		addr += uint64(n)
		most -= n
	}
	return "", api.ENAMETOOLONG
}

// Put lays b at addr, whatever may be done there, but for what is not mapped.
func (s *Space) Put(addr uint64, b []byte) {
	if s == nil {
		return
	}
	for len(b) > 0 {
		n := min(len(b), restOfPage(addr))
		if _, ok := s.At(addr); ok {
			s.data.Write(addr, b[:n])
		}
		b = b[n:]
		addr += uint64(n)
	}
}

// Peek answers n bytes from addr on, whatever may be done there; nothing where n is not from 1 to MaxFile.
func (s *Space) Peek(addr uint64, n int) []byte {
	if s == nil {
		return nil
	}
	return s.data.Read(addr, n)
}

// restOfPage answers how many places there are from addr up to its page's end.
func restOfPage(addr uint64) int {
	return api.PageSize - int(addr%api.PageSize)
}
