package tail_test

import (
	"math/rand"
	"slices"
	"testing"

	"posthorn/api"
	"posthorn/tail"
)

// TestMergeExamples: P16.3, the chapter's examples.
func TestMergeExamples(t *testing.T) {
	g, l := given(), ofAll("l", 3)
	merges(t, g, 3, 1, l, api.Log{Base: 2, BaseTerm: 1, L: []api.Entry{g.L[0], l[0]}}, 4, true)
	merges(t, g, 4, 1, nil, g, 0, false)
	merges(t, g, 1, 9, ofAll("l", 1, 1), g, 0, true)
}

// TestMerge: P16.3, what is taken over: an x stands for an entry of l, a g for one of the log.
func TestMerge(t *testing.T) {
	g := api.Log{Base: 2, BaseTerm: 1, BaseConf: []int{1, 2}, L: ofAll("g", 1, 2, 2, 4)}
	for _, x := range []struct {
		prev, term uint64
		l          []uint64
		want       string // what stands behind the base
		index      uint64
	}{
		// behind the end
		{6, 4, []uint64{4}, "ggggx", 7},
		{6, 4, []uint64{4, 5, 9}, "ggggxxx", 7},
		{6, 4, nil, "gggg", 0},
		// all of it is there
		{2, 1, []uint64{1, 2, 2, 4}, "gggg", 0},
		{2, 1, []uint64{1, 2}, "gggg", 0}, // and what stands behind it stays
		{4, 2, []uint64{2}, "gggg", 0},
		{3, 1, nil, "gggg", 0},
		{2, 1, nil, "gggg", 0},
		// some of it is there
		{2, 1, []uint64{1, 2, 2, 4, 4, 6}, "ggggxx", 7},
		{4, 2, []uint64{2, 4, 4}, "ggggx", 7},
		// another term: from there on what stood is gone
		{2, 1, []uint64{2}, "x", 3},
		{2, 1, []uint64{1, 1}, "gx", 4},
		{2, 1, []uint64{1, 3}, "gx", 4},
		{2, 1, []uint64{1, 2, 3, 3, 3}, "ggxxx", 5},
		{2, 1, []uint64{1, 3, 3, 4}, "gxxx", 4}, // even where a later term would be the same
		{5, 2, []uint64{5}, "gggx", 6},
		{5, 2, []uint64{3}, "gggx", 6},
		{5, 2, []uint64{2, 2}, "gggxx", 6},
		// ahead of the base
		{1, 9, []uint64{7, 1, 2}, "gggg", 0},
		{1, 0, []uint64{7, 1, 3}, "gx", 4},
		{0, 0, []uint64{7, 7, 3, 3}, "xx", 3},
		{0, 5, []uint64{7, 7, 1, 2, 2, 4, 4}, "ggggx", 7},
		{0, 5, []uint64{7, 7}, "gggg", 0},
		{0, 5, []uint64{7}, "gggg", 0},
		{1, 5, []uint64{7}, "gggg", 0},
		{1, 5, nil, "gggg", 0}, // prev counts as the base, with nothing to pass over, too
		{0, 5, nil, "gggg", 0},
	} {
		l := ofAll("l", x.l...)
		want := api.Log{Base: 2, BaseTerm: 1, BaseConf: []int{1, 2}}
		for n, of := range x.want {
			index := uint64(3 + n)
			if of == 'g' {
				want.L = append(want.L, g.L[index-3])
			} else {
				want.L = append(want.L, l[index-x.prev-1])
			}
		}
		merges(t, g, x.prev, x.term, l, want, x.index, true)
	}
}

// TestMergeFalse: P16.3, what doesn't fit: another term at prev, or none.
func TestMergeFalse(t *testing.T) {
	g := api.Log{Base: 2, BaseTerm: 1, BaseConf: []int{1, 2}, L: ofAll("g", 1, 2, 2, 4)}
	for _, l := range [][]api.Entry{nil, ofAll("l", 4), ofAll("l", 1, 2, 2, 4), ofAll("l", 9, 9, 9)} {
		for prev, there := range map[uint64]uint64{2: 1, 3: 1, 4: 2, 5: 2, 6: 4} {
			for term := range uint64(6) {
				if term != there {
					merges(t, g, prev, term, l, g, 0, false)
				}
			}
			merges(t, g, prev, there+1<<32, l, g, 0, false)
			merges(t, g, prev, there-1<<63, l, g, 0, false)
		}
		for _, prev := range append([]uint64{7, 8, 100}, great...) {
			for _, term := range []uint64{0, 1, 2, 4, 5, maxIndex} { // 0 is no term that stands there
				merges(t, g, prev, term, l, g, 0, false)
				merges(t, api.Log{Base: 6}, prev, term, l, api.Log{Base: 6}, 0, false)
			}
		}
	}
}

// TestMergeIntoNothing: P16.3, into a log that has no entries.
func TestMergeIntoNothing(t *testing.T) {
	l := ofAll("l", 0, 1, 1)
	merges(t, api.Log{}, 0, 0, l, api.Log{L: l}, 1, true)
	merges(t, api.Log{}, 0, 0, nil, api.Log{}, 0, true)
	merges(t, api.Log{}, 0, 1, l, api.Log{}, 0, false)
	merges(t, api.Log{}, 1, 0, l, api.Log{}, 0, false)
	base := api.Log{Base: 2, BaseTerm: 5, BaseConf: []int{4}}
	merges(t, base, 0, 9, l, api.Log{Base: 2, BaseTerm: 5, BaseConf: []int{4}, L: l[2:]}, 3, true)
	merges(t, base, 0, 9, l[:2], base, 0, true)
	merges(t, base, 2, 5, l, api.Log{Base: 2, BaseTerm: 5, BaseConf: []int{4}, L: l}, 3, true)
	merges(t, base, 2, 4, l, base, 0, false)
}

// TestMergeGreat: P16.3, bases and terms at which a lesser kind of number would turn round.
func TestMergeGreat(t *testing.T) {
	for _, term := range great {
		g := api.Log{Base: maxBase, BaseTerm: term, L: ofAll("g", term)}
		l := ofAll("l", term, term, term)
		merges(t, g, maxBase, term, l, api.Log{Base: maxBase, BaseTerm: term, L: append(g.L[:1:1], l[1:]...)}, maxBase+2, true)
		merges(t, g, maxBase+1, term, l, api.Log{Base: maxBase, BaseTerm: term, L: append(g.L[:1:1], l...)}, maxBase+2, true)
		merges(t, g, maxBase-1, 0, l, api.Log{Base: maxBase, BaseTerm: term, L: append(g.L[:1:1], l[2])}, maxBase+2, true)
		merges(t, g, maxBase-3, 0, l, g, 0, true)
		merges(t, g, maxBase-1<<32, 0, l, g, 0, true)
		merges(t, g, 0, 0, l, g, 0, true)
		merges(t, g, maxBase+2, term, l, g, 0, false)
		merges(t, g, maxBase, term-1, l, g, 0, false)
		merges(t, g, maxBase, term+1<<32, l, g, 0, false)
		l[0].Term = term + 1<<32
		merges(t, g, maxBase, term, l, api.Log{Base: maxBase, BaseTerm: term, L: l}, maxBase+1, true)
	}
}

// TestMergeOfAll: P16.3, all short logs, all short rows of entries, each index and term, by another road.
func TestMergeOfAll(t *testing.T) {
	for _, base := range []uint64{0, 2} {
		for terms := range rows[uint64](3, 1, 2, 3) {
			g := api.Log{Base: base, BaseTerm: 1, BaseConf: []int{2}, L: ofAll("g", terms...)}
			if !right(g) {
				continue
			}
			for terms := range rows[uint64](4, 1, 2, 3) {
				l := ofAll("l", terms...)
				for prev := range base + 6 {
					for term := range uint64(4) {
						mergesAsOther(t, g, prev, term, l)
					}
				}
			}
		}
	}
}

// TestMergeOfDice: P16.3, P16.5 and P16.6: what was merged of a right log stands in both alike, ahead of it nothing has changed, and merged again it changes nothing.
func TestMergeOfDice(t *testing.T) {
	dice := rand.New(rand.NewSource(163))
	fitted, turned := 0, 0
	for range 40000 {
		g, h := throw(dice), throw(dice)
		last, _ := tail.Last(h)
		prev := h.Base + uint64(dice.Intn(int(last-h.Base)+1))
		term, _ := tail.Term(h, prev)
		l := tail.Slice(h, prev+1, dice.Intn(12))
		mergesAsOther(t, g, prev, term, l)
		next, i, ok := tail.Merge(g, prev, term, l)
		if !ok {
			continue
		}
		fitted++
		if i > 0 {
			turned++
		}
		mergedAlike(t, g, next, prev, h.BaseTerm, l)
		if again, i, ok := tail.Merge(next, prev, term, l); !same(again, next) || i != 0 || !ok {
			t.Errorf("merged again, %v behind %d is %v, %d, %t; was %v", l, prev, again, i, ok, next)
		}
		for n := range l { // so does a part of it
			if again, i, ok := tail.Merge(next, prev, term, l[:n]); !same(again, next) || i != 0 || !ok {
				t.Errorf("a part merged again, %v behind %d is %v, %d, %t; was %v", l[:n], prev, again, i, ok, next)
			}
		}
	}
	if fitted < 10000 || turned < 4000 {
		t.Errorf("%d fitted, %d turned something", fitted, turned)
	}
}

// mergedAlike checks what P16.5 says of a log g that entries were merged into.
func mergedAlike(t *testing.T, g, next api.Log, prev, least uint64, l []api.Entry) {
	t.Helper()
	was, is := otherOf(g), otherOf(next)
	for i := prev + 1; i <= prev+uint64(len(l)); i++ {
		if x := l[i-prev-1]; i > g.Base && is.at[i] != x {
			t.Errorf("%d: %v stands there, not %v", i, is.at[i], x)
		}
	}
	for i := g.Base + 1; i <= prev; i++ {
		if is.at[i] != was.at[i] {
			t.Errorf("%d: %v stands there, ahead of what was merged; was %v", i, is.at[i], was.at[i])
		}
	}
	if next.Base != g.Base || next.BaseTerm != g.BaseTerm || !slices.Equal(next.BaseConf, g.BaseConf) {
		t.Errorf("the base of %v is another one in %v", g, next)
	}
	behind := prev < g.Base && least < g.BaseTerm // then l may be of a log that has other terms where g has its base
	if !behind && !tail.Right(next) {
		t.Errorf("%v isn't right", next)
	}
}
