package tail_test

import (
	"math/rand"
	"slices"
	"testing"

	"posthorn/api"
	"posthorn/tail"
)

// grown is a log whose members change.
func grown() api.Log {
	return api.Log{Base: 5, BaseTerm: 1, BaseConf: []int{1}, L: []api.Entry{of(1), conf(1, 2), {Term: 2, Kind: api.EntConf, Data: text(2, 1)}, {Term: 2, Kind: api.EntConf, Data: text(1, 2, 3)}, of(4)}}
}

// TestCompact: P16.4, the log behind each index that there is.
func TestCompact(t *testing.T) {
	g := grown()
	compacts(t, given(), 3, api.Log{Base: 3, BaseTerm: 1, L: given().L[1:]}, true)
	for _, x := range []struct {
		i, term uint64
		conf    []int
	}{
		{5, 1, []int{1}}, {6, 1, []int{1}}, {7, 1, []int{1, 2}}, {8, 2, []int{1, 2}}, {9, 2, []int{1, 2, 3}}, {10, 4, []int{1, 2, 3}},
	} {
		compacts(t, g, x.i, api.Log{Base: x.i, BaseTerm: x.term, BaseConf: x.conf, L: g.L[x.i-5:]}, true)
	}
	for _, i := range append([]uint64{0, 1, 4, 11, 12}, great...) {
		compacts(t, g, i, g, false)
	}
	compacts(t, api.Log{}, 0, api.Log{}, true)
	compacts(t, api.Log{}, 1, api.Log{}, false)
	compacts(t, api.Log{}, maxIndex, api.Log{}, false)
	compacts(t, api.Log{Base: 4, BaseTerm: 3}, 4, api.Log{Base: 4, BaseTerm: 3}, true)
	compacts(t, api.Log{Base: 4, BaseTerm: 3}, 3, api.Log{Base: 4, BaseTerm: 3}, false)
	compacts(t, api.Log{Base: 4, BaseTerm: 3, L: []api.Entry{of(3)}}, 5, api.Log{Base: 5, BaseTerm: 3}, true)
	g.Base = maxBase
	compacts(t, g, maxBase+4, api.Log{Base: maxBase + 4, BaseTerm: 2, BaseConf: []int{1, 2, 3}, L: g.L[4:]}, true)
	compacts(t, g, maxBase-1, g, false)
	compacts(t, g, maxBase+6, g, false)
}

// TestInstall: P16.4, another beginning, with the entries behind it where the term there is that one.
func TestInstall(t *testing.T) {
	g, members := grown(), []int{2, 4}
	base := func(i, term uint64, l ...api.Entry) api.Log {
		return api.Log{Base: i, BaseTerm: term, BaseConf: members, L: l}
	}
	terms := map[uint64]uint64{5: 1, 6: 1, 7: 1, 8: 2, 9: 2, 10: 4}
	for i := range uint64(20) {
		for term := range uint64(6) {
			want := base(i, term)
			if there, ok := terms[i]; ok && there == term {
				want.L = g.L[i-5:]
			}
			installs(t, g, i, term, members, want)
		}
	}
	for _, i := range great {
		installs(t, g, i, 0, members, base(i, 0))
		installs(t, g, i, 4, members, base(i, 4))
		installs(t, g, i, i, members, base(i, i))
		installs(t, g, 10, i, members, base(10, i))
		installs(t, api.Log{Base: maxBase, BaseTerm: i, L: ofAll("g", i, i)}, maxBase+1, i, members, base(maxBase+1, i, ofAll("g", i, i)[1]))
		installs(t, api.Log{Base: maxBase, BaseTerm: i, L: ofAll("g", i, i)}, maxBase+1, i-1, members, base(maxBase+1, i-1))
	}
	for _, conf := range append(all(), nil, []int{}, []int{3, 1}, []int{9}) { // what members it is handed it takes
		installs(t, g, 7, 1, conf, api.Log{Base: 7, BaseTerm: 1, BaseConf: conf, L: g.L[2:]})
		installs(t, g, 7, 2, conf, api.Log{Base: 7, BaseTerm: 2, BaseConf: conf})
		installs(t, api.Log{}, 0, 0, conf, api.Log{BaseConf: conf})
		installs(t, api.Log{}, 1, 0, conf, api.Log{Base: 1, BaseConf: conf})
	}
}

// TestBehindCompact: P16.7, all that stands above the new base, the last index, the members from there on, are as ahead.
func TestBehindCompact(t *testing.T) {
	dice := rand.New(rand.NewSource(167))
	for range 2000 {
		g := throw(dice)
		last, term := tail.Last(g)
		members, at := tail.Conf(g)
		for i := g.Base; i <= last; i++ {
			next, ok := tail.Compact(g, i)
			if !ok || !tail.Right(next) {
				t.Fatalf("Compact(%v, %d): %v, %t", g, i, next, ok)
			}
			lasts(t, next, last, term)
			confs(t, next, members, max(i, at))
			for j := i; j <= last; j++ {
				term, ok := tail.Term(g, j)
				terms(t, next, j, term, ok)
				confsAt(t, next, j, tail.ConfAt(g, j))
				pieces(t, next, j+1, maxInt, tail.Slice(g, j+1, maxInt))
				twice, ok := tail.Compact(g, j)
				compacts(t, next, j, twice, ok) // so that one may go on from there
			}
			installs(t, g, i, next.BaseTerm, next.BaseConf, next)
			stays(t, tail.Install(next, g.Base, g.BaseTerm+99, g.BaseConf), api.Log{Base: g.Base, BaseTerm: g.BaseTerm + 99, BaseConf: g.BaseConf})
		}
	}
}

// TestMergeBehindCompact: P16.3 and P16.7, what is merged where the beginning is gone comes to the same as where it is there.
func TestMergeBehindCompact(t *testing.T) {
	dice := rand.New(rand.NewSource(168))
	for range 20000 {
		g := throw(dice)
		last, _ := tail.Last(g)
		i := g.Base + uint64(dice.Intn(int(last-g.Base)+1))
		next, _ := tail.Compact(g, i)
		prev := g.Base + uint64(dice.Intn(int(last-g.Base)+1))
		term, _ := tail.Term(g, prev)
		l := tail.Slice(g, prev+1, dice.Intn(9)) // what stands up to the base can't differ
		for n := range l {
			if prev+1+uint64(n) > i && dice.Intn(4) == 0 {
				for m := range l[n:] {
					l[n+m].Term += 2
				}
				break
			}
		}
		whole, index, ok := tail.Merge(g, prev, term, l)
		want, _ := tail.Compact(whole, i)
		merges(t, next, prev, term, l, want, index, ok)
	}
}

// TestLettingGoLeavesNone: P16.4, behind Install of another term there is nothing, whatever stood there.
func TestLettingGoLeavesNone(t *testing.T) {
	g := grown()
	for i := range uint64(15) {
		for term := uint64(5); term < 9; term++ {
			next := tail.Install(g, i, term, []int{1, 2})
			lasts(t, next, i, term)
			confs(t, next, []int{1, 2}, i)
			if !slices.Equal(tail.Slice(next, i+1, maxInt), nil) {
				t.Errorf("%v", next)
			}
		}
	}
}
