package journal

import (
	"slices"
	"strings"

	"posthorn/api"
)

const maxBase = 1 << 62

// state is what a node must not forget.
type state struct {
	hard  api.Hard
	log   api.Log
	image string
}

// next is the index behind the last one.
func (s *state) next() uint64 { return s.log.Base + 1 + uint64(len(s.log.L)) }

// takes says whether an entry may be laid at that index.
func (s *state) takes(index uint64) bool { return index > s.log.Base && index <= s.next() }

// lay puts entries at an index that the state takes, in place of all that stands from there on.
func (s *state) lay(index uint64, l ...api.Entry) {
	ahead := int(index - s.log.Base - 1)
	s.log.L = slices.Replace(s.log.L, ahead, len(s.log.L), l...)
}

// rightBase says whether a log's base may stand in a record.
func rightBase(g api.Log) bool {
	ahead := 0
	for _, node := range g.BaseConf {
		if node <= ahead || node > api.MaxNodes {
			return false
		}
		ahead = node
	}
	return g.Base <= maxBase
}

// rightEntries says whether entries may stand in records.
func rightEntries(l []api.Entry) bool {
	return !slices.ContainsFunc(l, func(x api.Entry) bool {
		return x.Kind < api.EntNone || x.Kind > api.EntMail || len(x.Data) > api.MaxData
	})
}

// copyLog is the same log in new memory.
func copyLog(g api.Log) api.Log {
	g.BaseConf = slices.Clone(g.BaseConf)
	g.L = copyEntries(g.L)
	return g
}

// copyEntries is the same entries in new memory.
func copyEntries(l []api.Entry) []api.Entry {
	c := make([]api.Entry, len(l))
	for i, x := range l {
		x.Data = strings.Clone(x.Data)
		c[i] = x
	}
	return c
}
