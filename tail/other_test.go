package tail_test

import (
	"fmt"
	"iter"
	"math"
	"reflect"
	"slices"
	"testing"

	"posthorn/api"
	"posthorn/tail"
)

const (
	maxIndex = math.MaxUint64
	maxBase  = 1 << 62
	maxInt   = math.MaxInt
	minInt   = math.MinInt
)

// great are numbers at which a lesser kind of number, or one with a sign, would turn round.
var great = []uint64{1<<31 - 1, 1 << 31, 1<<32 - 1, 1 << 32, 1<<32 + 1, 1<<53 + 1, maxBase - 1, maxBase, maxBase + 1, 1<<63 - 1, 1 << 63, 1<<63 + 1, maxIndex - 3, maxIndex - 2, maxIndex - 1, maxIndex}

// text is members' text, by another road than layer 15's.
func text(l ...int) string {
	s := fmt.Sprintf("%c", len(l))
	for _, node := range l {
		s += fmt.Sprintf("%c", node)
	}
	return s
}

// all are all members that there are.
func all() [][]int {
	var rows [][]int
	for bits := 1; bits < 32; bits++ {
		var l []int
		for i := range 5 {
			if bits>>i&1 == 1 {
				l = append(l, i+1)
			}
		}
		rows = append(rows, l)
	}
	return rows
}

// anyMembers are all of them, in one list.
var anyMembers = all()

// said are all members by their texts.
var said = func() map[string][]int {
	m := map[string][]int{}
	for _, l := range all() {
		m[text(l...)] = l
	}
	return m
}()

// reads are the members that a text says, by another road; none, if it says none.
func reads(s string) []int { return said[s] }

// of is an entry of a term.
func of(term uint64) api.Entry { return api.Entry{Term: term, Kind: api.EntMail, Data: "mail"} }

// ofAll are entries of terms, each with Data of its own.
func ofAll(name string, terms ...uint64) []api.Entry {
	var l []api.Entry
	for i, term := range terms {
		l = append(l, api.Entry{Term: term, Kind: i%3 + 1, Data: fmt.Sprintf("%s%d", name, i)})
	}
	return l
}

// conf is an entry that says who the members are.
func conf(l ...int) api.Entry { return api.Entry{Term: 1, Kind: api.EntConf, Data: text(l...)} }

// given is the chapter's example.
func given() api.Log { return api.Log{Base: 2, BaseTerm: 1, L: ofAll("g", 1, 2)} }

// rows are all lists of some things, of up to most of them. A row holds till the next one.
func rows[T any](most int, of ...T) iter.Seq[[]T] {
	return func(yield func([]T) bool) {
		var walk func(l []T) bool
		walk = func(l []T) bool {
			if !yield(l) {
				return false
			}
			if len(l) == most {
				return true
			}
			for _, n := range of {
				if !walk(append(l, n)) {
					return false
				}
			}
			return true
		}
		walk(make([]T, 0, most))
	}
}

// other is a log by another road: what stands at each index.
type other struct {
	api.Log
	at   map[uint64]api.Entry
	last uint64
}

// otherOf is a log that doesn't turn round, laid out by indices.
func otherOf(g api.Log) other {
	o := other{g, map[uint64]api.Entry{}, g.Base}
	for _, x := range g.L {
		o.last++
		o.at[o.last] = x
	}
	return o
}

func (o other) term(i uint64) (uint64, bool) {
	if i == o.Base {
		return o.BaseTerm, true
	}
	x, ok := o.at[i]
	return x.Term, ok
}

// from are all entries from an index on.
func (o other) from(i uint64) []api.Entry {
	var l []api.Entry
	for ; ; i++ {
		x, ok := o.at[i]
		if !ok {
			return l
		}
		l = append(l, x)
	}
}

func (o other) slice(from uint64, most int) []api.Entry {
	var l []api.Entry
	for _, x := range o.from(from) {
		if len(l) < most {
			l = append(l, x)
		}
	}
	return l
}

// conf goes from the beginning on: each entry that says who the members are, and stands up to the index, makes them others.
func (o other) conf(i uint64) ([]int, uint64) {
	members, at := o.BaseConf, o.Base
	for n, x := range o.L {
		index := o.Base + 1 + uint64(n)
		if l := reads(x.Data); index <= i && x.Kind == api.EntConf && l != nil {
			members, at = l, index
		}
	}
	return members, at
}

func (o other) newer(i, term uint64) bool {
	end, _ := o.term(o.last)
	return term > end || term == end && i >= o.last
}

// merge goes by the indices at which l stands in its own log, those up to the base with it.
func (o other) merge(prev, term uint64, l []api.Entry) (api.Log, uint64, bool) {
	if there, ok := o.term(prev); prev >= o.Base && (!ok || there != term) {
		return o.Log, 0, false
	}
	theirs := map[uint64]api.Entry{}
	for n, x := range l {
		theirs[prev+1+uint64(n)] = x
	}
	i := max(prev, o.Base) + 1
	for ; ; i++ {
		mine, is := o.at[i]
		x, ok := theirs[i]
		if !ok {
			return o.Log, 0, true
		}
		if !is || mine.Term != x.Term {
			break
		}
	}
	next := api.Log{Base: o.Base, BaseTerm: o.BaseTerm, BaseConf: o.BaseConf}
	for at := o.Base + 1; at <= prev+uint64(len(l)); at++ {
		x := theirs[at]
		if at < i {
			x = o.at[at]
		}
		next.L = append(next.L, x)
	}
	return next, i, true
}

func (o other) compact(i uint64) (api.Log, bool) {
	term, ok := o.term(i)
	if !ok {
		return o.Log, false
	}
	members, _ := o.conf(i)
	return api.Log{Base: i, BaseTerm: term, BaseConf: members, L: o.from(i + 1)}, true
}

func (o other) install(i, term uint64, conf []int) api.Log {
	next := api.Log{Base: i, BaseTerm: term, BaseConf: conf}
	if there, ok := o.term(i); ok && there == term {
		next.L = o.from(i + 1)
	}
	return next
}

// same says whether two logs are the same; empty lists are the same as none.
func same(a, b api.Log) bool {
	return a.Base == b.Base && a.BaseTerm == b.BaseTerm && slices.Equal(a.BaseConf, b.BaseConf) && slices.Equal(a.L, b.L)
}

// deep is a log in memory of its own, by another road.
func deep(g api.Log) api.Log {
	next := api.Log{Base: g.Base, BaseTerm: g.BaseTerm}
	next.BaseConf = append(next.BaseConf, g.BaseConf...)
	for _, x := range g.L {
		x.Data = string([]byte(x.Data))
		next.L = append(next.L, x)
	}
	return next
}

// brief is the beginning of what a thing looks like.
func brief(x any) string {
	s := fmt.Sprint(x)
	return s[:min(len(s), 300)]
}

// rights checks what Right says.
func rights(t *testing.T, g api.Log, want bool) {
	t.Helper()
	if got := tail.Right(g); got != want {
		t.Errorf("Right(%s): %t", brief(g), got)
	}
}

// lasts checks what Last tells.
func lasts(t *testing.T, g api.Log, index, term uint64) {
	t.Helper()
	if i, got := tail.Last(g); i != index || got != term {
		t.Errorf("Last(%s): %d, %d; must be %d, %d", brief(g), i, got, index, term)
	}
}

// terms checks what Term tells: a false has 0 beside it.
func terms(t *testing.T, g api.Log, i, want uint64, ok bool) {
	t.Helper()
	if got, is := tail.Term(g, i); got != want || is != ok {
		t.Errorf("Term(%s, %d): %d, %t; must be %d, %t", brief(g), i, got, is, want, ok)
	}
}

// pieces checks what Slice tells.
func pieces(t *testing.T, g api.Log, from uint64, most int, want []api.Entry) {
	t.Helper()
	if got := tail.Slice(g, from, most); !slices.Equal(got, want) {
		t.Errorf("Slice(%s, %d, %d): %s; must be %s", brief(g), from, most, brief(got), brief(want))
	}
}

// confs checks what Conf tells.
func confs(t *testing.T, g api.Log, want []int, at uint64) {
	t.Helper()
	if got, i := tail.Conf(g); !slices.Equal(got, want) || i != at {
		t.Errorf("Conf(%s): %v, %d; must be %v, %d", brief(g), got, i, want, at)
	}
}

// confsAt checks what ConfAt tells.
func confsAt(t *testing.T, g api.Log, i uint64, want []int) {
	t.Helper()
	if got := tail.ConfAt(g, i); !slices.Equal(got, want) {
		t.Errorf("ConfAt(%s, %d): %v; must be %v", brief(g), i, got, want)
	}
}

// newers checks what Newer says.
func newers(t *testing.T, g api.Log, i, term uint64, want bool) {
	t.Helper()
	if got := tail.Newer(g, i, term); got != want {
		t.Errorf("Newer(%s, %d, %d): %t", brief(g), i, term, got)
	}
}

// merges checks what Merge tells.
func merges(t *testing.T, g api.Log, prev, term uint64, l []api.Entry, want api.Log, index uint64, ok bool) {
	t.Helper()
	if got, i, is := tail.Merge(g, prev, term, l); !same(got, want) || i != index || is != ok {
		t.Errorf("Merge(%s, %d, %d, %s): %s, %d, %t; must be %s, %d, %t", brief(g), prev, term, brief(l), brief(got), i, is, brief(want), index, ok)
	}
}

// mergesAsOther checks Merge by the other road.
func mergesAsOther(t *testing.T, g api.Log, prev, term uint64, l []api.Entry) {
	t.Helper()
	want, index, ok := otherOf(g).merge(prev, term, l)
	merges(t, g, prev, term, l, want, index, ok)
}

// compacts checks what Compact tells.
func compacts(t *testing.T, g api.Log, i uint64, want api.Log, ok bool) {
	t.Helper()
	if got, is := tail.Compact(g, i); !same(got, want) || is != ok {
		t.Errorf("Compact(%s, %d): %s, %t; must be %s, %t", brief(g), i, brief(got), is, brief(want), ok)
	}
}

// installs checks what Install tells.
func installs(t *testing.T, g api.Log, i, term uint64, conf []int, want api.Log) {
	t.Helper()
	if got := tail.Install(g, i, term, conf); !same(got, want) {
		t.Errorf("Install(%s, %d, %d, %v): %s; must be %s", brief(g), i, term, conf, brief(got), brief(want))
	}
}

// asks checks all that is asked of a log, at indices around its own, by the other road.
func asks(t *testing.T, g api.Log) {
	t.Helper()
	o := otherOf(g)
	end, _ := o.term(o.last)
	lasts(t, g, o.last, end)
	members, at := o.conf(o.last)
	confs(t, g, members, at)
	indices := []uint64{0, 1, g.Base / 2, maxIndex, maxIndex - 1, g.Base + 1<<32, g.Base + 1 + 1<<32}
	for i := g.Base - 3; i != o.last+4; i++ { // below 0 it turns round, which is one more index past the end
		indices = append(indices, i)
	}
	for _, i := range indices {
		term, ok := o.term(i)
		terms(t, g, i, term, ok)
		members, _ := o.conf(i)
		confsAt(t, g, i, members)
		for _, most := range []int{minInt, -1, 0, 1, 2, 3, len(g.L), maxInt - 1, maxInt} {
			pieces(t, g, i, most, o.slice(i, most))
		}
		for _, term := range []uint64{0, end - 1, end, end + 1, maxIndex} {
			newers(t, g, i, term, o.newer(i, term))
		}
		next, ok := o.compact(i)
		compacts(t, g, i, next, ok)
		for _, term := range []uint64{0, term - 1, term, term + 1} {
			installs(t, g, i, term, []int{2, 5}, o.install(i, term, []int{2, 5}))
		}
	}
}

// stays checks that a log is what it was.
func stays(t *testing.T, got, want api.Log) {
	t.Helper()
	if !reflect.DeepEqual(deep(got), deep(want)) {
		t.Fatalf("%s was turned into %s", brief(want), brief(got))
	}
}
