package match_test

import (
	"math"
	"math/rand"
	"slices"
	"testing"
	"time"

	"posthorn/api"
	"posthorn/match"
)

// otherWhole goes by another road, from the last node on: each takes from a heap those that stand ready behind it, and how deep they are.
func otherWhole(l []api.Key) bool {
	var ready []int
	for _, k := range slices.Backward(l) {
		kids := 0
		switch {
		case k.Kind == 1 && k.Kids > 0:
			kids = k.Kids
		case k.Kind == 2:
			kids = 1
		case k.Kind == 3:
			kids = 2
		case k.Kind < 4 || k.Kind > 13:
			return false
		}
		if kids > len(ready) {
			return false
		}
		deep := 0
		for _, d := range ready[len(ready)-kids:] {
			deep = max(deep, d)
		}
		if kids > 0 {
			deep++
		}
		ready = append(ready[:len(ready)-kids], deep)
	}
	return len(l) <= 32 && len(ready) == 1 && ready[0] <= 8
}

// TestWhole: P11.1, how many kids each has.
func TestWhole(t *testing.T) {
	for _, x := range []struct {
		l    []api.Key
		want bool
	}{
		{nil, false},
		{keys(yes), true},
		{keys(yes, yes), false},
		{keys(and(1)), false},
		{keys(and(1), yes), true},
		{keys(and(1), yes, yes), false},
		{keys(and(2), yes), false},
		{keys(and(2), yes, yes), true},
		{keys(and(0)), false},
		{keys(and(0), yes), false},
		{keys(and(1), and(0)), false},
		{keys(and(2), and(0), yes), false},
		{keys(and(-1)), false},
		{keys(and(-1), yes), false},
		{keys(not), false},
		{keys(not, yes), true},
		{keys(not, yes, yes), false},
		{keys(not, not), false},
		{keys(not, not, yes), true},
		{keys(or), false},
		{keys(or, yes), false},
		{keys(or, yes, yes), true},
		{keys(or, yes, yes, yes), false},
		{keys(or, not, yes), false},
		{keys(or, not, yes, yes), true},
		{keys(or, yes, not), false},
		{keys(or, yes, not, yes), true},
		{keys(or, or, yes, yes, or, yes, yes), true},
		{keys(or, or, yes, yes, or, yes), false},
		{keys(and(3), not, yes, or, yes, yes, and(1), yes), true},
		{keys(and(3), not, yes, or, yes, yes, and(2), yes), false},
		{keys(and(2), not, yes, or, yes, yes, and(1), yes), false},
		{keys(yes, and(1), yes), false},
		{keys(yes, not), false},
	} {
		whole(t, x.l, x.want)
	}
}

// TestKinds: P11.1, keys of each kind, from KeyAnd to KeyHeader, with each number of nodes behind them.
func TestKinds(t *testing.T) {
	odd := []int{math.MinInt, math.MinInt32, -1 << 16, 1 << 8, 1<<8 + 4, 1 << 16, 1<<16 + 4, math.MaxInt32, 1 << 32, 1<<32 + 4, 1<<32 + 2, math.MaxInt}
	for kind := -300; kind < 600; kind++ {
		odd = append(odd, kind)
	}
	for _, kind := range odd {
		for behind := range 5 {
			l := append(keys(api.Key{Kind: kind}), slices.Repeat(keys(yes), behind)...)
			want := kind == 2 && behind == 1 || kind == 3 && behind == 2 || kind >= 4 && kind <= 13 && behind == 0
			whole(t, l, want)
			whole(t, slices.Insert(slices.Clone(l), 0, not), want)
			whole(t, slices.Insert(slices.Clone(l), 0, and(2), yes), want)
			whole(t, slices.Insert(slices.Clone(l), 0, or, not, yes), want)
			whole(t, append(slices.Insert(slices.Clone(l), 0, or), yes), want)
		}
	}
}

// TestKids: P11.1, an AND has as many kids as it says, 1 or more.
func TestKids(t *testing.T) {
	for _, kids := range []int{math.MinInt, math.MinInt32, -1 << 32, -2, -1, 0, 33, 256, 257, 1 << 16, 1<<16 + 1, math.MaxInt32, 1 << 32, 1<<32 + 1, math.MaxInt - 1, math.MaxInt} {
		for behind := range 32 {
			whole(t, append(keys(and(kids)), slices.Repeat(keys(yes), behind)...), false)
		}
		whole(t, keys(or, yes, and(kids), yes), false)
	}
	for kids := 1; kids < 40; kids++ {
		for behind := range 40 {
			whole(t, append(keys(and(kids)), slices.Repeat(keys(yes), behind)...), kids == behind && kids <= 31)
			whole(t, append(keys(not, and(kids)), slices.Repeat(keys(yes), behind)...), kids == behind && kids <= 30)
		}
	}
}

// TestMost: P11.1, at most 32 nodes, of whatever shape they are.
func TestMost(t *testing.T) {
	for n := range 70 {
		whole(t, append(keys(and(n)), slices.Repeat(keys(yes), n)...), n >= 1 && n+1 <= 32)
		whole(t, append(keys(and(n)), slices.Repeat(keys(not, yes), n)...), n >= 1 && 2*n+1 <= 32)
		whole(t, append(keys(and(n+1), yes), slices.Repeat(keys(not, yes), n)...), 2*n+2 <= 32)
		whole(t, append(keys(and(n)), slices.Repeat(keys(or, yes, yes), n)...), n >= 1 && 3*n+1 <= 32)
		whole(t, append(keys(and(n)), slices.Repeat(keys(and(3), yes, yes, yes), n)...), n >= 1 && 4*n+1 <= 32)
	}
	full := keys(yes) // a tree of OR, five deep, has 63 nodes; four deep 31
	for deep := range 6 {
		whole(t, full, deep <= 4)
		whole(t, append(keys(not), full...), deep <= 4)
		whole(t, append(keys(not, not), full...), deep <= 3)
		full = slices.Concat(keys(or), full, full)
	}
}

// TestNest: P11.1, at most 8 of AND, NOT, OR in one another, those that don't stand in one another not counted together.
func TestNest(t *testing.T) {
	dice := rand.New(rand.NewSource(11))
	for deep := range 14 {
		want := deep <= 8
		for range 200 {
			l := keys(yes)
			for range deep {
				switch dice.Intn(6) {
				case 0:
					l = append(keys(not), l...)
				case 1:
					l = append(keys(and(1)), l...)
				case 2:
					l = append(keys(and(2), yes), l...)
				case 3:
					l = append(append(keys(and(2)), l...), yes)
				case 4:
					l = append(keys(or, yes), l...)
				case 5:
					l = append(append(keys(or), l...), yes)
				}
			}
			whole(t, l, want)
		}
		for _, k := range keys(not, and(1)) {
			chain := append(slices.Repeat(keys(k), deep), yes)
			whole(t, chain, want)
			whole(t, slices.Concat(keys(or), chain, keys(yes)), deep <= 7)
			whole(t, slices.Concat(keys(or, yes), chain), deep <= 7)
			whole(t, slices.Concat(keys(or), chain, chain), deep <= 7)
			whole(t, slices.Concat(keys(and(2)), chain, slices.Repeat(keys(not), 7), keys(yes)), deep <= 7)
			whole(t, slices.Concat(keys(and(2)), slices.Repeat(keys(not), 7), keys(yes), chain), deep <= 7)
			whole(t, slices.Concat(keys(and(2), yes), slices.Repeat(keys(k), deep), keys(not, yes)), deep <= 6)
			whole(t, slices.Concat(slices.Repeat(keys(k), deep), keys(and(3), yes, yes, yes)), deep <= 7)
			whole(t, slices.Concat(slices.Repeat(keys(k), deep), keys(or, yes, or, yes, yes)), deep <= 6)
		}
	}
}

// TestRows: P11.1, all short rows of nodes, by another road.
func TestRows(t *testing.T) {
	most := 7
	if testing.Short() {
		most = 5
	}
	rows := [][]api.Key{nil}
	nodes := keys(yes, not, or, and(1), and(2), and(3))
	for n := range most {
		var longer [][]api.Key
		for _, row := range rows {
			for _, k := range nodes {
				l := append(slices.Clip(row), k)
				if want := otherWhole(l); match.Whole(l) != want {
					t.Fatalf("Whole(%v) is not %t", l, want)
				}
				if n+1 < most {
					longer = append(longer, l)
				}
			}
		}
		rows = longer
	}
}

// TestWholeOfDice: P11.1, greater rows of nodes, most of them nearly whole, by another road.
func TestWholeOfDice(t *testing.T) {
	dice := rand.New(rand.NewSource(111))
	var were [2]int
	for range 60000 {
		l := grown(dice, dice.Intn(10), 40)
		for range dice.Intn(3) {
			at := dice.Intn(len(l) + 1)
			switch dice.Intn(3) {
			case 0:
				l = slices.Insert(l, at, among(dice, yes, not, or, and(1), and(2), and(dice.Intn(5)-1)))
			case 1:
				l = l[:at]
			case 2:
				l = slices.Delete(l, at, min(at+1, len(l)))
			}
		}
		want := otherWhole(l)
		whole(t, l, want)
		if t.Failed() {
			return
		}
		if want {
			were[1]++
		} else {
			were[0]++
		}
	}
	if min(were[0], were[1]) < 5000 {
		t.Error(were)
	}
}

// among is one of a list.
func among[T any](dice *rand.Rand, l ...T) T { return l[dice.Intn(len(l))] }

// grown is a key with its kids, so deep at most, and mostly of no more nodes than most.
func grown(dice *rand.Rand, deep, most int) []api.Key {
	if deep == 0 || most <= 2 {
		return keys(among(dice, yes, yes, no))
	}
	k, kids := yes, 0
	switch dice.Intn(4) {
	case 1:
		k, kids = not, 1
	case 2:
		k, kids = or, 2
	case 3:
		kids = 1 + dice.Intn(4)
		k = and(kids)
	}
	l := keys(k)
	for range kids {
		l = append(l, grown(dice, deep-1, (most-1)/kids)...)
	}
	return l
}

// TestMany: the calls end soon, however long a list is, and whatever its nodes say of their kids.
func TestMany(t *testing.T) {
	const n = 1 << 18
	begun := time.Now()
	for _, k := range keys(yes, not, or, and(1), and(2), and(math.MaxInt), and(n), api.Key{}) {
		l := slices.Repeat(keys(k), n)
		whole(t, l, false)
		whole(t, append(l, yes), false)
		if match.Wants(l) || !match.Wants(append(l, api.Key{Kind: api.KeyText})) {
			t.Errorf("Wants, of many %v", k)
		}
	}
	whole(t, append(keys(and(n)), slices.Repeat(keys(yes), n)...), false)
	for behind := range 31 {
		whole(t, slices.Concat(slices.Repeat(keys(and(math.MaxInt)), behind), keys(yes)), behind == 0)
	}
	if took := time.Since(begun); took > 20*time.Second {
		t.Errorf("took %s", took)
	}
}
