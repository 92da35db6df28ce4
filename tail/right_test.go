package tail_test

import (
	"math/rand"
	"slices"
	"testing"

	"posthorn/api"
)

// right says whether a log is right, by another road.
func right(g api.Log) bool {
	terms := []uint64{g.BaseTerm}
	for _, x := range g.L {
		terms = append(terms, x.Term)
		if !slices.Contains([]int{1, 2, 3}, x.Kind) {
			return false
		}
	}
	conf := len(g.BaseConf) == 0 || slices.ContainsFunc(anyMembers, func(l []int) bool { return slices.Equal(l, g.BaseConf) })
	return conf && slices.IsSorted(terms) && g.Base <= 1<<62 && len(terms) <= 1025
}

// TestRight: P16.1, logs that are right, and logs that aren't.
func TestRight(t *testing.T) {
	rights(t, api.Log{}, true)
	rights(t, api.Log{BaseConf: []int{}, L: []api.Entry{}}, true)
	rights(t, given(), true)
	for _, x := range []struct {
		g    api.Log
		want bool
	}{
		{api.Log{Base: 1, BaseTerm: 1, BaseConf: []int{1, 3}, L: []api.Entry{of(1), of(3), of(3), of(9)}}, true},
		{api.Log{BaseTerm: 7}, true},
		{api.Log{BaseTerm: maxIndex, L: []api.Entry{of(maxIndex)}}, true},
		{api.Log{L: []api.Entry{of(0), of(0), of(maxIndex)}}, true},
		{api.Log{L: []api.Entry{{Kind: 2}}}, true}, // what an EntConf's Data say is nothing to it
		{api.Log{L: []api.Entry{{Kind: 2, Data: "\x02\x01\x01"}}}, true},
		{api.Log{L: []api.Entry{{Kind: 1, Data: string(make([]byte, 9999))}}}, true},
		{api.Log{BaseTerm: 1, L: []api.Entry{of(0)}}, false},
		{api.Log{BaseTerm: maxIndex, L: []api.Entry{of(0)}}, false},
		{api.Log{BaseTerm: 1 << 63, L: []api.Entry{of(1)}}, false},
		{api.Log{BaseTerm: 2, L: []api.Entry{of(1), of(2), of(3)}}, false},
		{api.Log{L: []api.Entry{of(2), of(3), of(1)}}, false},
		{api.Log{L: []api.Entry{of(2), of(1), of(3)}}, false},
		{api.Log{L: []api.Entry{of(1 << 32), of(1)}}, false},
		{api.Log{L: []api.Entry{of(maxIndex), of(0)}}, false},
	} {
		rights(t, x.g, x.want)
	}
}

// TestRightBase: P16.1, each base, and each list beside it.
func TestRightBase(t *testing.T) {
	for _, base := range append([]uint64{0, 1, 2, 1000}, great...) {
		want := base <= 1<<62
		rights(t, api.Log{Base: base}, want)
		rights(t, api.Log{Base: base, BaseTerm: 1, BaseConf: []int{1, 2, 3}, L: []api.Entry{of(1)}}, want)
		rights(t, api.Log{Base: base, BaseConf: []int{3, 2}}, false)
	}
	for _, l := range all() {
		rights(t, api.Log{BaseConf: l}, true)
		rights(t, api.Log{BaseConf: append([]int{0}, l...)}, false)
		rights(t, api.Log{BaseConf: append(slices.Clone(l), 6)}, false)
		rights(t, api.Log{BaseConf: append(slices.Clone(l), l[0])}, false)
	}
	for _, n := range []int{0, -1, 6, 7, 257, 1<<32 + 1, minInt, maxInt} {
		rights(t, api.Log{BaseConf: []int{n}}, false)
		rights(t, api.Log{BaseConf: []int{1, n}}, false)
		rights(t, api.Log{BaseConf: []int{n}, L: []api.Entry{of(1)}}, false)
	}
	rights(t, api.Log{BaseConf: []int{2, 1}, L: []api.Entry{conf(1, 2)}}, false)
}

// TestRightKinds: P16.1, each kind in each place.
func TestRightKinds(t *testing.T) {
	for _, kind := range []int{1, 2, 3, 0, -1, -2, 4, 5, 1<<32 + 1, 1<<32 + 3, 256 + 2, minInt, minInt + 1, maxInt} {
		for at := range 5 {
			g := api.Log{L: slices.Repeat([]api.Entry{of(3)}, 5)}
			g.L[at].Kind = kind
			rights(t, g, kind == api.EntNone || kind == api.EntConf || kind == api.EntMail)
		}
	}
}

// TestRightSize: P16.1, as many entries as there may be, and more.
func TestRightSize(t *testing.T) {
	for _, n := range []int{1, 2, 16, 1022, 1023, 1024, 1025, 1026, 2047, 2048, 1<<16 + 1} {
		g := api.Log{Base: 5, BaseTerm: 3, L: slices.Repeat([]api.Entry{of(3)}, n)}
		rights(t, g, n <= 1024)
		g.L[n-1].Term = 4
		rights(t, g, n <= 1024)
		g.L[n-1].Term = 2
		rights(t, g, false)
		g.L[n-1] = api.Entry{Term: 3}
		rights(t, g, false)
	}
}

// TestRightOfAllTerms: P16.1, all short rows of terms, behind each of some.
func TestRightOfAllTerms(t *testing.T) {
	for base := range uint64(4) {
		for l := range rows[uint64](5, 0, 1, 2, 3) {
			g := api.Log{BaseTerm: base, L: ofAll("", l...)}
			rights(t, g, slices.IsSorted(append([]uint64{base}, l...)))
		}
	}
}

// TestRightOfDice: P16.1, by another road.
func TestRightOfDice(t *testing.T) {
	dice := rand.New(rand.NewSource(16))
	n := 0
	for range 30000 {
		g := throw(dice)
		if dice.Intn(3) == 0 {
			g.Base = great[dice.Intn(len(great))]
		}
		if dice.Intn(3) == 0 {
			g.BaseConf = append(g.BaseConf, dice.Intn(8)-1)
		}
		for i := range g.L {
			switch dice.Intn(20) {
			case 0:
				g.L[i].Kind = dice.Intn(6) - 1
			case 1:
				g.L[i].Term = uint64(dice.Intn(12))
			}
		}
		want := right(g)
		rights(t, g, want)
		if want {
			n++
		}
	}
	if n < 3000 || n > 27000 {
		t.Errorf("%d of the logs are right", n)
	}
}
