package tail_test

import (
	"math/rand"
	"slices"
	"strings"
	"testing"
	"time"
	"unsafe"

	"posthorn/api"
	"posthorn/tail"
)

// turn turns all of a log's memory: its lists with their spare room, and its texts, which must not be constants.
func turn(g api.Log) {
	for i := range g.BaseConf {
		g.BaseConf[i] ^= 7
	}
	clear(g.BaseConf[len(g.BaseConf):cap(g.BaseConf)])
	for i, x := range g.L {
		b := unsafe.Slice(unsafe.StringData(x.Data), len(x.Data))
		for j := range b {
			b[j] ^= 1
		}
		g.L[i].Kind, g.L[i].Term = 99, 99
	}
	clear(g.L[len(g.L):cap(g.L)])
}

// spare is a log with room behind its lists, in which something stands, and all of them.
func spare(g api.Log) (log, whole api.Log) {
	whole = deep(g)
	whole.BaseConf = append(whole.BaseConf, 90, 91, 92, 93)
	whole.L = append(whole.L, ofAll("spare", 90, 91, 92, 93, 94, 95, 96, 97)...)
	log = whole
	log.BaseConf, log.L = log.BaseConf[:len(g.BaseConf)], log.L[:len(g.L)]
	return log, whole
}

// told are what all calls that tell logs or lists make of a log, as logs.
func told(g api.Log, i, term uint64, l []api.Entry, conf []int) []api.Log {
	merged, _, _ := tail.Merge(g, i, term, l)
	compact, _ := tail.Compact(g, i)
	at, _ := tail.Conf(g)
	return []api.Log{
		merged, compact, tail.Install(g, i, term, conf),
		{BaseConf: at}, {BaseConf: tail.ConfAt(g, i)},
		{L: tail.Slice(g, i, maxInt)}, {L: tail.Slice(g, i, 2)},
	}
}

// TestKeepsNone: what is handed in is neither turned nor shared with what is told, spare room included, and what is told shares none with another answer.
func TestKeepsNone(t *testing.T) {
	dice := rand.New(rand.NewSource(1616))
	for range 3000 {
		g, whole := spare(throw(dice))
		other, entries := spare(throw(dice))
		wasG, wasOther := deep(whole), deep(entries)
		i := g.Base + uint64(dice.Intn(len(g.L)+2))
		term, _ := tail.Term(g, i)
		was := told(g, i, term, other.L, other.BaseConf)
		for n, x := range was {
			was[n] = deep(x)
		}
		for range 2 {
			is := told(g, i, term, other.L, other.BaseConf)
			for n, x := range is {
				stays(t, x, was[n])
				turn(x)
				stays(t, whole, wasG)
				stays(t, entries, wasOther)
			}
		}
		is := told(g, i, term, other.L, other.BaseConf)
		turn(g)
		turn(other)
		for n, x := range is {
			stays(t, x, was[n])
		}
	}
}

// TestKeepsNoneOfFalse: a log that is told as it is, beside a false or with nothing new, is told in new memory, too.
func TestKeepsNoneOfFalse(t *testing.T) {
	g, whole := spare(grown())
	l := ofAll("l", 1)
	was := deep(whole)
	for range 2 {
		no, _, ok := tail.Merge(g, 99, 1, l)
		none, _, fits := tail.Merge(g, 5, 1, l)
		left, done := tail.Compact(g, 99)
		base, _ := tail.Compact(g, 5)
		if ok || !fits || done {
			t.Fatal(ok, fits, done)
		}
		for _, x := range []api.Log{no, none, left, base} {
			stays(t, x, g)
			turn(x)
			stays(t, whole, was)
		}
	}
}

// TestListsApart: two lists that are told are apart, also where one entry says the members of both.
func TestListsApart(t *testing.T) {
	g := api.Log{BaseConf: []int{3}, L: []api.Entry{conf(1, 2), of(1)}}
	one, _ := tail.Conf(g)
	two := tail.ConfAt(g, 1)
	base := tail.ConfAt(g, 0)
	clear(one[:cap(one)])
	if !slices.Equal(two, []int{1, 2}) || !slices.Equal(base, []int{3}) {
		t.Errorf("%v, %v", two, base)
	}
	clear(base[:cap(base)])
	confsAt(t, g, 0, []int{3})
	confs(t, g, []int{1, 2}, 1)
}

// wrong are logs that aren't right.
func wrong() []api.Log {
	var logs []api.Log
	for _, base := range append([]uint64{0, 1, 5}, great...) {
		for _, terms := range [][]uint64{nil, {1}, {3, 2, 1}, {maxIndex, 0, maxIndex, 5}} {
			for _, conf := range [][]int{nil, {1, 1}, {maxInt, minInt, 0, -1, 9, 9, 9}} {
				g := api.Log{Base: base, BaseTerm: 2, BaseConf: conf, L: ofAll("g", terms...)}
				for i := range g.L {
					g.L[i].Kind = []int{0, -1, 2, maxInt}[i%4]
				}
				logs = append(logs, g)
			}
		}
	}
	return logs
}

// TestWrong: of logs that aren't right the calls end, and what is handed in stays.
func TestWrong(t *testing.T) {
	indices := append([]uint64{0, 1, 2, 3, 4, 5, 6, 7, 8, 9}, great...)
	for _, g := range wrong() {
		g, whole := spare(g)
		l, entries := spare(wrong()[11])
		was, wasL := deep(whole), deep(entries)
		tail.Right(g)
		tail.Last(g)
		for _, i := range indices {
			tail.Term(g, i)
			for _, most := range []int{minInt, -1, 0, 1, 2, maxInt} {
				tail.Slice(g, i, most)
			}
			for _, term := range []uint64{0, 1, 2, 5, maxIndex} {
				tail.Newer(g, i, term)
				told(g, i, term, l.L, l.BaseConf)
				told(g, i, term, nil, nil)
			}
		}
		stays(t, whole, was)
		stays(t, entries, wasL)
	}
}

// TestLong: the calls end soon, however much they are handed.
func TestLong(t *testing.T) {
	const n = 1 << 20
	begun := time.Now()
	g := api.Log{Base: 3, BaseTerm: 1, L: slices.Repeat([]api.Entry{{Term: 1, Kind: api.EntConf, Data: "\x01\x09"}}, n)}
	g.L[0] = conf(4, 5)
	rights(t, g, false)
	lasts(t, g, 3+n, 1)
	confs(t, g, []int{4, 5}, 4)
	terms(t, g, 3+n, 1, true)
	terms(t, g, 4+n, 0, false)
	pieces(t, g, 4+n/2, 3, g.L[1:4])
	if l := tail.Slice(g, 4, maxInt); len(l) != n {
		t.Errorf("Slice: %d entries", len(l))
	}
	if got, i, ok := tail.Merge(g, 3, 1, g.L); len(got.L) != n || i != 0 || !ok {
		t.Errorf("Merge: %d entries, %d, %t", len(got.L), i, ok)
	}
	if got, i, ok := tail.Merge(api.Log{}, 0, 0, g.L); len(got.L) != n || i != 1 || !ok {
		t.Errorf("Merge: %d entries, %d, %t", len(got.L), i, ok)
	}
	if got, i, ok := tail.Merge(api.Log{Base: maxBase}, 0, 0, g.L); len(got.L) != 0 || i != 0 || !ok {
		t.Errorf("Merge: %d entries, %d, %t", len(got.L), i, ok)
	}
	if got, ok := tail.Compact(g, 2+n); len(got.L) != 1 || !ok || !slices.Equal(got.BaseConf, []int{4, 5}) {
		t.Errorf("Compact: %s, %t", brief(got), ok)
	}
	installs(t, g, 2+n, 1, nil, api.Log{Base: 2 + n, BaseTerm: 1, L: g.L[n-1:]})
	long := strings.Repeat("x", 1<<28)
	g = api.Log{L: []api.Entry{conf(2), {Kind: api.EntConf, Data: long}, {Kind: api.EntMail, Data: long}}}
	confs(t, g, []int{2}, 1)
	if got := tail.Slice(g, 2, 1); len(got) != 1 || got[0].Data != long {
		t.Error("Slice of a long entry")
	}
	if took := time.Since(begun); took > 20*time.Second {
		t.Errorf("took %s", took)
	}
}
