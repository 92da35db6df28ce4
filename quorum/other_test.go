package quorum_test

import (
	"fmt"
	"iter"
	"math"
	"slices"
	"strings"
	"testing"

	"posthorn/api"
	"posthorn/quorum"
)

const (
	maxInt   = math.MaxInt
	minInt   = math.MinInt
	maxIndex = math.MaxUint64
)

// far are numbers that are no node, though a lesser kind of number, or bits, would make some of them one.
var far = []int{0, -1, -2, -5, 6, 7, 8, 16, 31, 32, 33, 63, 64, 65, 66, 128, 129, 255, 256, 257, 1<<16 + 1, 1<<31 - 1, 1 << 31, 1<<32 + 1, 1<<32 + 2, 1<<32 + 5, -1<<32 + 1, -1<<32 + 2, -1<<31 - 1, maxInt, maxInt - 1, minInt, minInt + 1, minInt + 2}

// nodes are all numbers of nodes.
var nodes = []int{1, 2, 3, 4, 5}

// all are all members that there are.
func all() [][]int {
	var rows [][]int
	for bits := 1; bits < 32; bits++ {
		var l []int
		for i, node := range nodes {
			if bits>>i&1 == 1 {
				l = append(l, node)
			}
		}
		rows = append(rows, l)
	}
	return rows
}

// none are lists that aren't members.
func none() [][]int {
	rows := [][]int{nil, {}, {2, 1}, {1, 1}, {1, 2, 2}, {1, 3, 2}, {5, 4, 3, 2, 1}, {1, 2, 3, 4, 5, 6}, {0, 1, 2, 3, 4, 5}, {0, 1, 2, 3, 4}, {1, 1, 2, 3, 4, 5}, {1, 2, 3, 4, 5, 5}, {1, 2, 3, 4, 5, 1}, {2, 3, 4, 5, 6}, make([]int, 1000), slices.Repeat([]int{1}, 1000)}
	for _, n := range far {
		rows = append(rows, []int{n}, []int{n, 1}, []int{1, n}, []int{1, n, 2}, []int{1, 2, n}, []int{n, 4, 5}, []int{n, n})
	}
	for _, l := range all() {
		rows = append(rows, append([]int{0}, l...), append(slices.Clone(l), l[0]), append(slices.Clone(l), l...), append(slices.Clone(l), 6), append([]int{-1}, l...))
	}
	return rows
}

// rows are all lists of some numbers, of up to most of them. A row holds till the next one.
func rows(most int, of ...int) iter.Seq[[]int] {
	return func(yield func([]int) bool) {
		var walk func(l []int) bool
		walk = func(l []int) bool {
			if !yield(l) {
				return false
			}
			if len(l) == most {
				return true
			}
			for _, n := range of {
				if !walk(append(l, n)) {
					return false
				}
			}
			return true
		}
		walk(make([]int, 0, most))
	}
}

// are says whether a list is members, by another road: it is the nodes that stand in it, in the one order in which they may.
func are(l []int) bool {
	var in []int
	for _, node := range nodes {
		if slices.Contains(l, node) {
			in = append(in, node)
		}
	}
	return len(in) > 0 && slices.Equal(in, l)
}

// most says whether a majority of members stands in a list, by another road: those that are missing are fewer than those that aren't.
func most(l, who []int) bool {
	missing := slices.DeleteFunc(slices.Clone(l), func(node int) bool { return slices.Contains(who, node) })
	return are(l) && len(missing) < len(l)-len(missing)
}

// holders are the members that have an index.
func holders(l []int, index uint64, have []api.At) []int {
	return slices.DeleteFunc(slices.Clone(l), func(node int) bool {
		return !slices.ContainsFunc(have, func(at api.At) bool { return at.Node == node && at.Index >= index })
	})
}

// commit is the greatest index that a majority has, by another road: each one that is told is tried.
func commit(l []int, have []api.At) uint64 {
	greatest := uint64(0)
	for _, at := range have {
		if most(l, holders(l, at.Index, have)) {
			greatest = max(greatest, at.Index)
		}
	}
	return greatest
}

// with is members with a node, or without it, by another road, and whether that may be.
func with(l []int, add bool, n int) ([]int, bool) {
	var next []int
	for _, node := range nodes {
		if node == n && add || node != n && slices.Contains(l, node) {
			next = append(next, node)
		}
	}
	if !are(l) || !are(next) || len(next) == len(l) {
		return nil, false
	}
	return next, true
}

// steps says whether members are one step from others, by another road: all but one node stand in both, or in none.
func steps(a, b []int) bool {
	other := 0
	for _, node := range nodes {
		if slices.Contains(a, node) != slices.Contains(b, node) {
			other++
		}
	}
	return are(a) && are(b) && other == 1
}

// text is members' text, by another road.
func text(l []int) string {
	if !are(l) {
		return ""
	}
	s := strings.Builder{}
	fmt.Fprintf(&s, "%c", len(l))
	for _, node := range l {
		fmt.Fprintf(&s, "%c", node)
	}
	return s.String()
}

// right checks what Right says of a list, and what the other calls do of one that isn't members.
func right(t *testing.T, l []int, want bool) {
	t.Helper()
	if got := quorum.Right(l); got != want {
		t.Errorf("Right(%v): %t", l, got)
	}
	writes(t, l)
	if !want {
		mosts(t, l, nodes, false)
		mosts(t, l, l, false)
		commits(t, l, 0, had(7, nodes...)...)
		commits(t, l, 0, had(7, l...)...)
	}
}

// mosts checks what Most says.
func mosts(t *testing.T, l, who []int, want bool) {
	t.Helper()
	if got := quorum.Most(l, who); got != want {
		t.Errorf("Most(%v, %v): %t", l, who, got)
	}
}

// had is one index of nodes.
func had(index uint64, l ...int) []api.At {
	var have []api.At
	for _, node := range l {
		have = append(have, api.At{Node: node, Index: index})
	}
	return have
}

// commits checks what Commit tells.
func commits(t *testing.T, l []int, want uint64, have ...api.At) {
	t.Helper()
	if got := quorum.Commit(l, have...); got != want {
		t.Errorf("Commit(%v, %v): %d, must be %d", l, have, got, want)
	}
}

// applies checks what Apply tells: an error has nothing beside it.
func applies(t *testing.T, l []int, add bool, n int, want []int, ok bool) {
	t.Helper()
	wantError := api.ErrArg
	if ok {
		wantError = api.OK
	}
	if got, e := quorum.Apply(l, add, n); !slices.Equal(got, want) || e != wantError {
		t.Errorf("Apply(%v, %t, %d): %v, %d; must be %v, %d", l, add, n, got, e, want, wantError)
	}
}

// writes checks what Text tells.
func writes(t *testing.T, l []int) {
	t.Helper()
	if got, want := quorum.Text(l), text(l); got != want {
		t.Errorf("Text(%v): %x, must be %x", l, got, want)
	}
}

// reads checks what Read tells: an error has nothing beside it.
func reads(t *testing.T, s string, want ...int) {
	t.Helper()
	wantError := api.ErrForm
	if len(want) > 0 {
		wantError = api.OK
	}
	if got, e := quorum.Read(s); !slices.Equal(got, want) || e != wantError {
		t.Errorf("Read(%.40x): %v, %d; must be %v, %d", s, got, e, want, wantError)
	}
}
