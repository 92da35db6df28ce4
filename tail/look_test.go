package tail_test

import (
	"fmt"
	"math/rand"
	"slices"
	"testing"

	"posthorn/api"
)

// throw throws a right log by dice: what stands at an index under a term is always the same.
func throw(dice *rand.Rand) api.Log {
	g := api.Log{Base: uint64(dice.Intn(6)), BaseTerm: uint64(dice.Intn(3))}
	if dice.Intn(3) > 0 {
		g.BaseConf = slices.Clone(anyMembers[dice.Intn(31)])
	}
	term := g.BaseTerm
	for range dice.Intn(12) {
		if dice.Intn(3) == 0 {
			term += uint64(dice.Intn(3))
		}
		g.L = append(g.L, entryOf(g.Base+1+uint64(len(g.L)), term))
	}
	return g
}

// entryOf is what stands at an index under a term.
func entryOf(i, term uint64) api.Entry {
	n := int(i*1000+term) * 2654435761 >> 7 & 0xffff
	x := api.Entry{Term: term, Kind: n%3 + 1, Data: fmt.Sprintf("%d.%d", i, term)}
	switch n / 3 % 3 {
	case 0:
		x.Data = text(anyMembers[n/9%31]...)
	case 1:
		x.Data = text(n/9%7, n/63%7)
	}
	return x
}

// TestLast: P16.1, the last index, and the term there.
func TestLast(t *testing.T) {
	lasts(t, given(), 4, 2)
	lasts(t, api.Log{}, 0, 0)
	lasts(t, api.Log{Base: 7, BaseTerm: 3}, 7, 3)
	lasts(t, api.Log{BaseTerm: 3}, 0, 3)
	lasts(t, api.Log{Base: 7, BaseTerm: 3, L: []api.Entry{of(3)}}, 8, 3)
	lasts(t, api.Log{Base: 7, BaseTerm: 3, L: []api.Entry{of(3), of(5), of(9)}}, 10, 9)
	lasts(t, api.Log{L: []api.Entry{of(0)}}, 1, 0)
	lasts(t, api.Log{Base: maxBase, BaseTerm: maxIndex, L: []api.Entry{of(maxIndex)}}, maxBase+1, maxIndex)
}

// TestTerm: P16.1, the term at each index; elsewhere there is none.
func TestTerm(t *testing.T) {
	terms(t, given(), 2, 1, true)
	terms(t, given(), 1, 0, false)
	terms(t, given(), 3, 1, true)
	terms(t, given(), 4, 2, true)
	terms(t, given(), 5, 0, false)
	terms(t, given(), 0, 0, false)
	terms(t, api.Log{}, 0, 0, true)
	terms(t, api.Log{}, 1, 0, false)
	terms(t, api.Log{BaseTerm: 4}, 0, 4, true)
	for _, i := range great {
		terms(t, given(), i, 0, false)
		terms(t, api.Log{}, i, 0, false)
	}
	g := api.Log{Base: maxBase, BaseTerm: 5, L: ofAll("", 5, 1<<63)}
	for i, want := range map[uint64]uint64{maxBase: 5, maxBase + 1: 5, maxBase + 2: 1 << 63} {
		terms(t, g, i, want, true)
	}
	for _, i := range []uint64{0, 1, 2, maxBase - 1, maxBase + 3, 1 << 63, maxIndex} {
		terms(t, g, i, 0, false)
	}
}

// TestSlice: P16.1, entries from an index on, at most so many.
func TestSlice(t *testing.T) {
	g := api.Log{Base: 2, BaseTerm: 1, L: ofAll("g", 1, 2, 2, 5)}
	for _, x := range []struct {
		from       uint64
		most, a, b int
	}{
		{3, 1, 0, 1}, {3, 2, 0, 2}, {3, 4, 0, 4}, {3, 5, 0, 4}, {3, maxInt, 0, 4},
		{4, 1, 1, 2}, {4, 3, 1, 4}, {4, maxInt, 1, 4}, {5, 2, 2, 4}, {6, 1, 3, 4}, {6, maxInt, 3, 4},
	} {
		pieces(t, g, x.from, x.most, g.L[x.a:x.b])
	}
	for _, most := range []int{1, 2, 3, maxInt} {
		for _, from := range append([]uint64{0, 1, 2, 7, 8}, great...) {
			pieces(t, g, from, most, nil)
		}
		pieces(t, api.Log{}, 0, most, nil)
		pieces(t, api.Log{}, 1, most, nil)
		pieces(t, api.Log{Base: 4, BaseTerm: 4}, 4, most, nil)
		pieces(t, api.Log{Base: 4, BaseTerm: 4}, 5, most, nil)
	}
	for _, most := range []int{0, -1, -2, minInt, minInt + 1} {
		for from := range uint64(9) {
			pieces(t, g, from, most, nil)
		}
	}
	g.Base = maxBase
	pieces(t, g, maxBase+1, 2, g.L[:2])
	pieces(t, g, maxBase+4, maxInt, g.L[3:])
	pieces(t, g, maxBase, 2, nil)
	pieces(t, g, maxBase+5, 2, nil)
}

// TestNewer: P16.2, ends that are at least as new, and ends that aren't.
func TestNewer(t *testing.T) {
	for _, x := range []struct {
		i, term uint64
		want    bool
	}{
		{4, 2, true}, {5, 2, true}, {maxIndex, 2, true}, {3, 2, false}, {0, 2, false},
		{0, 3, true}, {4, 3, true}, {maxIndex, 3, true}, {0, maxIndex, true},
		{4, 1, false}, {9, 1, false}, {maxIndex, 1, false}, {maxIndex, 0, false}, {0, 0, false},
	} {
		newers(t, given(), x.i, x.term, x.want)
	}
	newers(t, api.Log{}, 0, 0, true)
	newers(t, api.Log{Base: 3, BaseTerm: 2}, 3, 2, true)
	newers(t, api.Log{Base: 3, BaseTerm: 2}, 2, 2, false)
	newers(t, api.Log{Base: 3, BaseTerm: 2}, 9, 1, false)
	newers(t, api.Log{Base: 3, BaseTerm: 2}, 0, 3, true)
	for i, term := range great {
		g := api.Log{Base: maxBase, BaseTerm: term}
		newers(t, g, maxBase, term, true)
		newers(t, g, maxBase-1, term, false)
		newers(t, g, 1<<63, term, true)
		newers(t, g, maxIndex, term-1, false)
		for j, next := range great {
			newers(t, g, 1, next, j > i)
		}
	}
}

// TestAsksOfAll: P16.1 to P16.4, all short rows of terms behind some bases, at each index, by another road.
func TestAsksOfAll(t *testing.T) {
	for _, base := range []uint64{0, 1, 2, 1<<32 - 2, maxBase} {
		for _, term := range []uint64{0, 1, 2} {
			for l := range rows(4, term, term+1, term+3) {
				asks(t, api.Log{Base: base, BaseTerm: term, BaseConf: []int{1, 4}, L: ofAll("g", l...)})
			}
		}
	}
}

// TestAsksOfDice: P16.1 to P16.4, logs of dice, at each index, by another road.
func TestAsksOfDice(t *testing.T) {
	dice := rand.New(rand.NewSource(161))
	for range 2000 {
		asks(t, throw(dice))
	}
}

// TestAsksOfLong: P16.1 to P16.4, logs of as many entries as there may be.
func TestAsksOfLong(t *testing.T) {
	for _, n := range []int{1023, 1024} {
		g := api.Log{Base: 9, BaseTerm: 1, BaseConf: []int{1}}
		for i := range n {
			g.L = append(g.L, entryOf(uint64(10+i), uint64(1+i/100)))
		}
		o := otherOf(g)
		lasts(t, g, o.last, 1+uint64(n-1)/100)
		members, at := o.conf(o.last)
		confs(t, g, members, at)
		for i := uint64(0); i < o.last+3; i += 31 {
			term, ok := o.term(i)
			terms(t, g, i, term, ok)
			pieces(t, g, i, 8, o.slice(i, 8))
			pieces(t, g, i, maxInt, o.slice(i, maxInt))
			members, _ := o.conf(i)
			confsAt(t, g, i, members)
			next, ok := o.compact(i)
			compacts(t, g, i, next, ok)
			mergesAsOther(t, g, i, term, o.from(i+1))
			mergesAsOther(t, g, i, term, ofAll("l", 2, 3, 4, 11, 12))
		}
	}
}
