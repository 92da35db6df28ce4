package seqset_test

import (
	"math"
	"math/rand"
	"slices"
	"testing"

	"posthorn/api"
	"posthorn/seqset"
)

// norms checks what Norm says, and that it turns nothing that it was handed.
func norms(t *testing.T, of []uint64, want []api.Range) {
	t.Helper()
	was := slices.Clone(of)
	if got := seqset.Norm(of); !slices.Equal(got, want) {
		t.Errorf("Norm(%v) = %v, must be %v", of, got, want)
	}
	if !slices.Equal(of, was) {
		t.Errorf("Norm turned %v into %v", was, of)
	}
}

// gaps checks P5.6 of Norm of numbers: they alone, but 0, are in it, and between two ranges at least one number is missing.
func gaps(t *testing.T, of, asked []uint64) {
	t.Helper()
	l := seqset.Norm(of)
	for _, n := range asked {
		if n != 0 && seqset.Has(l, 0, n) != slices.Contains(of, n) {
			t.Errorf("Norm(%v) = %v, of %d", of, l, n)
		}
	}
	for i, r := range l {
		if r.From == 0 || r.From > r.To {
			t.Errorf("Norm(%v) = %v", of, l)
		}
		if i > 0 && (r.From <= l[i-1].To || r.From-l[i-1].To < 2) {
			t.Errorf("Norm(%v) = %v", of, l)
		}
	}
}

// TestNorm: P5.4, numbers as rising ranges.
func TestNorm(t *testing.T) {
	for _, x := range []struct {
		of   []uint64
		want []api.Range
	}{
		{[]uint64{3, 1, 2, 9, 0}, set(1, 3, 9, 9)},
		{nil, nil},
		{[]uint64{}, nil},
		{[]uint64{0}, nil},
		{[]uint64{0, 0, 0}, nil},
		{[]uint64{1}, set(1, 1)},
		{[]uint64{0, 1}, set(1, 1)},
		{[]uint64{1, 0}, set(1, 1)},
		{[]uint64{2, 0, 1}, set(1, 2)},
		{[]uint64{5, 5, 5}, set(5, 5)},
		{[]uint64{5, 6, 5, 6}, set(5, 6)},
		{[]uint64{1, 3}, set(1, 1, 3, 3)},
		{[]uint64{3, 1}, set(1, 1, 3, 3)},
		{[]uint64{1, 2, 4, 5, 7}, set(1, 2, 4, 5, 7, 7)},
		{[]uint64{10, 9, 8, 7}, set(7, 10)},
		{[]uint64{9, 10, 100}, set(9, 10, 100, 100)}, // by the numbers, not by their digits
		{[]uint64{maxUid, maxUid - 1, 1}, set(1, 1, maxUid-1, maxUid)},
	} {
		norms(t, x.of, x.want)
	}
}

// TestNormFar: P5.4, of numbers that no set has, too.
func TestNormFar(t *testing.T) {
	most := uint64(math.MaxUint64)
	for _, x := range []struct {
		of   []uint64
		want []api.Range
	}{
		{[]uint64{maxUid + 1, maxUid}, set(maxUid, maxUid+1)},
		{[]uint64{1 << 40, 1}, set(1, 1, 1<<40, 1<<40)},
		{[]uint64{most}, set(most, most)},
		{[]uint64{most, 0}, set(most, most)},
		{[]uint64{most, 0, 1}, set(1, 1, most, most)},
		{[]uint64{most, most - 1, 1, 2}, set(1, 2, most-1, most)},
		{[]uint64{1 << 63, 1<<63 - 1}, set(1<<63-1, 1<<63)},
		{[]uint64{1<<32 + 5, 5}, set(5, 5, 1<<32+5, 1<<32+5)},
		{[]uint64{1<<32 + 6, 5}, set(5, 5, 1<<32+6, 1<<32+6)}, // next to one another but for a round of 32 bits
	} {
		norms(t, x.of, x.want)
	}
}

// TestNormMany: P5.4, more ranges than a set has, and many numbers in one.
func TestNormMany(t *testing.T) {
	var odd, all []uint64
	var want []api.Range
	for n := range uint64(1000) {
		odd = append(odd, 2*(999-n)+1)
		all = append(all, 1000-n)
		want = append(want, api.Range{From: 2*n + 1, To: 2*n + 1})
	}
	norms(t, odd, want)
	norms(t, all, set(1, 1000))
	norms(t, append(all, odd...), append(set(1, 1001), want[501:]...))
}

// TestNormOfAllLists: P5.4 and P5.6, of all short lists of small numbers.
func TestNormOfAllLists(t *testing.T) {
	asked := []uint64{1, 2, 3, 4, 5, 6, 7, math.MaxUint64}
	for s := range shortRows(6, "\x00", "\x01", "\x02", "\x03", "\x05", "\x06") {
		var of []uint64
		for _, b := range []byte(s) {
			of = append(of, uint64(b))
		}
		gaps(t, of, asked)
	}
}

// TestNormOfDice: P5.4 and P5.6, of long lists; and in whatever order they stand the ranges are the same.
func TestNormOfDice(t *testing.T) {
	dice := rand.New(rand.NewSource(6))
	for range 300 {
		base := []uint64{0, 1, maxUid - 50, 1<<63 - 50, math.MaxUint64 - 119}[dice.Intn(5)]
		var asked, of []uint64
		for n := range uint64(120) {
			asked = append(asked, base+n)
		}
		for range dice.Intn(200) {
			of = append(of, base+uint64(dice.Intn(120)))
		}
		gaps(t, of, asked)
		want := seqset.Norm(of)
		for range 3 {
			dice.Shuffle(len(of), func(i, j int) { of[i], of[j] = of[j], of[i] })
			norms(t, of, want)
		}
		slices.Sort(of)
		norms(t, of, want)
	}
}

// TestNormNew: what Norm tells is new memory.
func TestNormNew(t *testing.T) {
	of := []uint64{4, 5, 9}
	clear(seqset.Norm(of))
	norms(t, of, set(4, 5, 9, 9))
}
