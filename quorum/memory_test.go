package quorum_test

import (
	"slices"
	"testing"

	"posthorn/api"
	"posthorn/quorum"
)

// spare is a list with room behind it, in which something stands.
func spare(l []int) (list, whole []int) {
	whole = append(slices.Clone(l), 90, 91, 92, 93, 94, 95, 96)
	return whole[:len(l)], whole
}

// TestKeepsNone: what is handed in is not turned, spare room included.
func TestKeepsNone(t *testing.T) {
	for _, l := range append(all(), none()...) {
		list, whole := spare(l)
		was := slices.Clone(whole)
		for n := range 8 {
			for _, add := range []bool{true, false} {
				next, _ := quorum.Apply(list, add, n)
				clear(next[:cap(next)])
			}
		}
		quorum.Right(list)
		quorum.Most(list, list)
		quorum.Step(list, nodes)
		quorum.Step(nodes, list)
		quorum.Text(list)
		quorum.Commit(list, had(5, list...)...)
		if !slices.Equal(whole, was) {
			t.Errorf("%v was turned into %v", was, whole)
		}
	}
}

// TestKeepsOrder: the indices that are handed in stand as they stood, behind Commit, and what stands behind them.
func TestKeepsOrder(t *testing.T) {
	whole := []api.At{has(3, 1), has(1, 2), has(9, 7), has(1, 1), has(2, 9), has(2, 0), has(3, 3), has(4, 4), has(5, 5)}
	was := slices.Clone(whole)
	for n := range whole {
		for _, l := range all() {
			commits(t, l, commit(l, was[:n]), whole[:n]...)
			if !slices.Equal(whole, was) {
				t.Fatalf("%v was turned into %v", was, whole)
			}
		}
	}
}

// TestTellsNew: what Apply and Read tell is new memory each time.
func TestTellsNew(t *testing.T) {
	for _, l := range all() {
		s := quorum.Text(l)
		for range 2 {
			got, _ := quorum.Read(s)
			if !slices.Equal(got, l) {
				t.Errorf("Read(%x): %v", s, got)
			}
			clear(got[:cap(got)])
			for n := range 6 {
				want, ok := with(l, true, n)
				applies(t, l, true, n, want, ok)
				got, _ := quorum.Apply(l, true, n)
				clear(got[:cap(got)])
				applies(t, l, true, n, want, ok)
			}
		}
		writes(t, l)
	}
}
