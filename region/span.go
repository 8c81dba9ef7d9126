package region

import "marionette/api"

// isSpan: do start and end tell a span?
func isSpan(start, end uint64) bool {
	return start%api.PageSize == 0 && end%api.PageSize == 0 && start < end && end <= api.Top
}

// isProt: is prot some of the permissions together?
func isProt(prot int) bool {
	return prot >= 0 && prot <= api.ProtR|api.ProtW|api.ProtX
}

// up answers size rounded up to whole pages; size is at most Top, so that the sum does not go round.
func up(size uint64) uint64 {
	return down(size + api.PageSize - 1)
}

// down answers where the page begins that has addr.
func down(addr uint64) uint64 {
	return addr - addr%api.PageSize
}

// join answers list with more behind it; of two that touch and have the same Prot one is made.
func join(list, more []api.Region) []api.Region {
	for _, r := range more {
		last := len(list) - 1
		if last >= 0 && list[last].End == r.Start && list[last].Prot == r.Prot {
			list[last].End = r.End
		} else {
			list = append(list, r)
		}
	}
	return list
}
