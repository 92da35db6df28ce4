package seqset_test

import (
	"math"
	"math/rand"
	"slices"
	"testing"

	"posthorn/api"
	"posthorn/seqset"
)

// has checks what Has and Pick say of a number.
func has(t *testing.T, l []api.Range, most, n uint64, want bool) {
	t.Helper()
	if got := seqset.Has(l, most, n); got != want {
		t.Errorf("Has(%v, %d, %d) = %t", l, most, n, got)
	}
	if got := len(seqset.Pick(l, most, []uint64{n})) == 1; got != want {
		t.Errorf("Pick(%v, %d, {%d}) has it: %t", l, most, n, got)
	}
}

// picks checks what Pick says, and that it turns nothing that it was handed.
func picks(t *testing.T, l []api.Range, most uint64, of, want []uint64) {
	t.Helper()
	was, ofWas := slices.Clone(l), slices.Clone(of)
	got := seqset.Pick(l, most, of)
	if !slices.Equal(got, want) {
		t.Errorf("Pick(%v, %d, %v) = %v, must be %v", l, most, of, got, want)
	}
	clear(got[:cap(got)])
	if !slices.Equal(l, was) || !slices.Equal(of, ofWas) {
		t.Errorf("Pick(%v, %d, %v) left %v and %v", was, most, ofWas, l, of)
	}
}

// walks says whether n is in a range, by walking from its one number to the other.
func walks(r api.Range, most, n uint64) bool {
	from, to := r.From, r.To
	if from == 0 {
		from = most
	}
	if to == 0 {
		to = most
	}
	for from < to && from != n {
		from++
	}
	for from > to && from != n {
		from--
	}
	return from == n
}

// TestHas: P5.3, numbers that are in a set, and numbers that aren't.
func TestHas(t *testing.T) {
	for _, x := range []struct {
		l     []api.Range
		most  uint64
		in    []uint64
		notIn []uint64
	}{
		{set(9, 0), 5, []uint64{5, 6, 7, 8, 9}, []uint64{0, 1, 4, 10, math.MaxUint64}},
		{set(0, 9), 5, []uint64{5, 6, 7, 8, 9}, []uint64{0, 1, 4, 10}},
		{set(9, 0), 12, []uint64{9, 10, 11, 12}, []uint64{0, 5, 8, 13}},
		{set(9, 0), 9, []uint64{9}, []uint64{0, 8, 10}},
		{set(9, 0), 0, []uint64{0, 1, 8, 9}, []uint64{10}},
		{set(4, 4), 9, []uint64{4}, []uint64{0, 3, 5, 9}},
		{set(4, 7), 9, []uint64{4, 5, 6, 7}, []uint64{0, 3, 8, 9}},
		{set(7, 4), 9, []uint64{4, 5, 6, 7}, []uint64{0, 3, 8, 9}},
		{set(0, 0), 9, []uint64{9}, []uint64{0, 1, 8, 10}},
		{set(0, 0), 0, []uint64{0}, []uint64{1, math.MaxUint64}},
		{set(2, 2, 4, 7, 9, 0), 10, []uint64{2, 4, 5, 6, 7, 9, 10}, []uint64{0, 1, 3, 8, 11}},
		{set(9, 9, 1, 2), 5, []uint64{1, 2, 9}, []uint64{0, 3, 5, 8, 10}},
		{set(1, maxUid), 1, []uint64{1, maxUid}, []uint64{0, maxUid + 1}},
		{nil, 5, nil, []uint64{0, 1, 5, math.MaxUint64}},
		{[]api.Range{}, 0, nil, []uint64{0, 1}},
	} {
		for _, n := range x.in {
			has(t, x.l, x.most, n, true)
		}
		for _, n := range x.notIn {
			has(t, x.l, x.most, n, false)
		}
	}
}

// TestHasAnyList: P5.3, of lists that are no set, too.
func TestHasAnyList(t *testing.T) {
	most := uint64(math.MaxUint64)
	for _, x := range []struct {
		l     []api.Range
		most  uint64
		in    []uint64
		notIn []uint64
	}{
		{set(1<<40, 1<<41), 1, []uint64{1 << 40, 1<<40 + 1, 1 << 41}, []uint64{0, 1, 1<<40 - 1, 1<<41 + 1, most}},
		{set(most, 1<<63), 1, []uint64{1 << 63, most - 1, most}, []uint64{0, 1, 1<<63 - 1}},
		{set(most, most), 1, []uint64{most}, []uint64{0, 1, most - 1}},
		{set(0, 0), most, []uint64{most}, []uint64{0, 1, most - 1}},
		{set(5, 0), most, []uint64{5, 1 << 63, most}, []uint64{0, 4}},
		{set(1, most), 0, []uint64{1, 2, 1 << 63, most}, []uint64{0}},
	} {
		for _, n := range x.in {
			has(t, x.l, x.most, n, true)
		}
		for _, n := range x.notIn {
			has(t, x.l, x.most, n, false)
		}
	}
	var many []api.Range
	for n := range uint64(1000) {
		many = append(many, api.Range{From: 2*n + 1, To: 2*n + 1})
	}
	for n := range uint64(2002) {
		has(t, many, 2000, n, n%2 == 1 && n <= 1999)
	}
}

// TestHasOfAllRanges: P5.3, one and two ranges of all small numbers, by walking; and P5.7, turned round, and in another order.
func TestHasOfAllRanges(t *testing.T) {
	for at := range uint64(5 * 5 * 5 * 5) {
		a := api.Range{From: at % 5, To: at / 5 % 5}
		b := api.Range{From: at / 25 % 5, To: at / 125}
		aTurned, bTurned := api.Range{From: a.To, To: a.From}, api.Range{From: b.To, To: b.From}
		for most := range uint64(7) {
			for n := range uint64(8) {
				has(t, []api.Range{a}, most, n, walks(a, most, n))
				want := walks(a, most, n) || walks(b, most, n)
				has(t, []api.Range{a, b}, most, n, want)
				has(t, []api.Range{b, a}, most, n, want)
				has(t, []api.Range{aTurned, b}, most, n, want)
				has(t, []api.Range{a, bTurned}, most, n, want)
				has(t, []api.Range{bTurned, aTurned}, most, n, want)
			}
		}
	}
}

// TestOrder: P5.7, of long sets.
func TestOrder(t *testing.T) {
	dice := rand.New(rand.NewSource(7))
	of := make([]uint64, 200)
	for i := range of {
		of[i] = uint64(i)
	}
	for range 200 {
		l := make([]api.Range, 1+dice.Intn(64))
		for i := range l {
			l[i] = api.Range{From: uint64(dice.Intn(190)), To: uint64(dice.Intn(4))}
			l[i].To += l[i].From
		}
		most := uint64(dice.Intn(200))
		var want []uint64
		for _, n := range of {
			if slices.ContainsFunc(l, func(r api.Range) bool { return walks(r, most, n) }) {
				want = append(want, n)
			}
		}
		picks(t, l, most, of, want)
		for i := range l {
			if dice.Intn(2) == 1 {
				l[i].From, l[i].To = l[i].To, l[i].From
			}
		}
		dice.Shuffle(len(l), func(i, j int) { l[i], l[j] = l[j], l[i] })
		picks(t, l, most, of, want)
	}
}

// TestPick: P5.3, those that are in the set, in their order, as often as they stand.
func TestPick(t *testing.T) {
	for _, x := range []struct {
		l        []api.Range
		most     uint64
		of, want []uint64
	}{
		{set(2, 4), 9, []uint64{1, 2, 3, 4, 5}, []uint64{2, 3, 4}},
		{set(2, 4), 9, []uint64{5, 4, 3, 2, 1}, []uint64{4, 3, 2}},
		{set(2, 4), 9, []uint64{3, 9, 3, 1, 2, 3}, []uint64{3, 3, 2, 3}},
		{set(4, 4, 1, 2), 9, []uint64{1, 2, 3, 4}, []uint64{1, 2, 4}},
		{set(1, 4, 2, 3), 9, []uint64{1, 2, 3, 4}, []uint64{1, 2, 3, 4}}, // once, however many ranges have it
		{set(9, 0), 5, []uint64{4, 5, 9, 10}, []uint64{5, 9}},
		{set(0, 0), 0, []uint64{0, 1, 0}, []uint64{0, 0}},
		{set(1, 0), math.MaxUint64, []uint64{math.MaxUint64, 0, 1 << 40}, []uint64{math.MaxUint64, 1 << 40}},
		{set(2, 4), 9, []uint64{1, 5}, nil},
		{set(2, 4), 9, nil, nil},
		{nil, 9, []uint64{1, 9}, nil},
		{nil, 0, nil, nil},
	} {
		picks(t, x.l, x.most, x.of, x.want)
	}
}
