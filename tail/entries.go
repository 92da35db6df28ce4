package tail

import (
	"iter"
	"slices"
	"strings"

	"posthorn/api"
	"posthorn/quorum"
)

// reaches says whether a log has a term at an index. An index is never made of the base here, since that sum may turn round.
func reaches(g api.Log, i uint64) bool {
	return i >= g.Base && i-g.Base <= uint64(len(g.L))
}

// upTo is how many of a log's entries stand up to an index, wherever that lies.
func upTo(g api.Log, i uint64) int {
	if i < g.Base {
		return 0
	}
	return int(min(i-g.Base, uint64(len(g.L))))
}

// termBehind is the term behind so many entries.
func termBehind(g api.Log, n int) uint64 {
	if n == 0 {
		return g.BaseTerm
	}
	return g.L[n-1].Term
}

// backward goes over a log's entries up to an index, with their indices, from the last one on.
func backward(g api.Log, i uint64) iter.Seq2[uint64, api.Entry] {
	return func(yield func(uint64, api.Entry) bool) {
		for n := upTo(g, i); n > 0; n-- {
			if !yield(g.Base+uint64(n), g.L[n-1]) {
				return
			}
		}
	}
}

// members are those at an index, and the index at which that is said.
func members(g api.Log, i uint64) ([]int, uint64) {
	l, at := slices.Clone(g.BaseConf), g.Base
looking:
	for index, x := range backward(g, i) {
		if x.Kind != api.EntConf { // whatever its Data reads as
			continue looking
		}
		if read, e := quorum.Read(x.Data); e == api.OK {
			l, at = read, index
			break looking
		}
	}
	return l, at
}

// alike is how many entries, from the first one on, two rows have with the same terms.
func alike(a, b []api.Entry) int {
	for n := range min(len(a), len(b)) {
		if a[n].Term != b[n].Term {
			return n
		}
	}
	return min(len(a), len(b))
}

// copyLog is the same log in new memory.
func copyLog(g api.Log) api.Log {
	g.BaseConf = slices.Clone(g.BaseConf)
	g.L = copyEntries(g.L)
	return g
}

// copyEntries is the same entries in new memory.
func copyEntries(l []api.Entry) []api.Entry {
	c := make([]api.Entry, len(l))
	for i, x := range l {
		x.Data = strings.Clone(x.Data)
		c[i] = x
	}
	return c
}
