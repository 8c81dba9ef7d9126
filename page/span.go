package page

import "marionette/api"

// span is the places from from on, up to to, which is no longer one of them.
type span struct{ from, to uint64 }

// within answers the places from from up to to that there are: none beyond Top is.
func within(from, to uint64) span {
	return span{from, min(to, api.Top)}
}

// below answers how many of n places from addr on there are; asked so, no sum can go round.
func below(addr uint64, n int) int {
	if addr >= api.Top {
		return 0
	}
	return int(min(uint64(n), api.Top-addr))
}

// empty: has p no place?
func (p span) empty() bool {
	return p.from >= p.to
}

// first answers the number of the page of p's first place; p is not empty.
func (p span) first() uint64 {
	return p.from / api.PageSize
}

// last answers the number of the page of p's last place; p is not empty.
func (p span) last() uint64 {
	return (p.to - 1) / api.PageSize
}

// wide: has p, which is not empty, places of more than MaxPages pages?
func (p span) wide() bool {
	return p.last()-p.first() >= api.MaxPages
}
