package quorum_test

import (
	"math/rand"
	"slices"
	"testing"
	"time"

	"posthorn/api"
	"posthorn/quorum"
)

// has is a node's index.
func has(node int, index uint64) api.At { return api.At{Node: node, Index: index} }

// TestCommit: P15.2, the greatest index that a majority has.
func TestCommit(t *testing.T) {
	for _, x := range []struct {
		l    []int
		want uint64
		have []api.At
	}{
		{[]int{1, 2, 3}, 5, []api.At{has(1, 5), has(2, 7)}},
		{[]int{1, 2}, 0, []api.At{has(1, 5)}},
		{[]int{1}, 5, []api.At{has(1, 5)}},
		{[]int{1}, 0, []api.At{has(2, 5)}},
		{[]int{1}, 0, nil},
		{[]int{1, 2}, 5, []api.At{has(2, 7), has(1, 5)}},
		{[]int{1, 2, 3}, 7, []api.At{has(1, 5), has(2, 7), has(3, 9)}},
		{[]int{1, 2, 3}, 7, []api.At{has(3, 5), has(1, 7), has(2, 9)}},
		{[]int{1, 2, 3}, 5, []api.At{has(1, 5), has(2, 5), has(3, 5)}},
		{[]int{1, 2, 3}, 5, []api.At{has(1, 5), has(2, 5), has(3, 1)}},
		{[]int{1, 2, 3}, 5, []api.At{has(1, 5), has(2, 5), has(3, 9)}},
		{[]int{1, 2, 3, 4}, 2, []api.At{has(1, 4), has(2, 3), has(3, 2), has(4, 1)}},
		{[]int{1, 2, 3, 4}, 0, []api.At{has(1, 4), has(2, 3)}},
		{[]int{1, 2, 3, 4}, 2, []api.At{has(1, 4), has(2, 3), has(4, 2)}},
		{[]int{1, 2, 3, 4, 5}, 3, []api.At{has(1, 1), has(2, 2), has(3, 3), has(4, 4), has(5, 5)}},
		{[]int{1, 2, 3, 4, 5}, 3, []api.At{has(5, 3), has(4, 3), has(3, 3), has(2, 4), has(1, 1)}},
		{[]int{1, 2, 3, 4, 5}, 0, []api.At{has(5, 3), has(4, 3)}},
		// of a node that is told more than once the greatest one counts, and once
		{[]int{1, 2, 3}, 5, []api.At{has(1, 5), has(2, 7), has(2, 9), has(2, 8)}},
		{[]int{1, 2, 3}, 0, []api.At{has(2, 7), has(2, 9), has(2, 8)}},
		{[]int{1, 2, 3}, 6, []api.At{has(1, 1), has(2, 9), has(1, 6), has(1, 3)}},
		{[]int{1, 2, 3}, 6, []api.At{has(1, 6), has(2, 9), has(1, 1)}},
		{[]int{1, 2}, 9, []api.At{has(1, 9), has(1, 9), has(2, 9), has(2, 9)}},
		// others don't count
		{[]int{1, 2, 3}, 0, []api.At{has(4, 5), has(5, 7), has(1, 6)}},
		{[]int{1, 2, 3}, 2, []api.At{has(4, 5), has(2, 2), has(0, 7), has(-1, 9), has(1, 6), has(6, 8)}},
		{[]int{2}, 3, []api.At{has(1, 9), has(2, 3), has(3, 9)}},
		// an index of 0 is one, and tells no other answer
		{[]int{1, 2, 3}, 0, []api.At{has(1, 0), has(2, 0), has(3, 9)}},
		{[]int{1, 2, 3}, 1, []api.At{has(1, 0), has(2, 1), has(3, 9)}},
		{[]int{1}, 0, []api.At{has(1, 0)}},
		// what aren't members
		{nil, 0, []api.At{has(1, 5), has(0, 5)}},
		{[]int{1, 1}, 0, []api.At{has(1, 5)}},
		{[]int{2, 1}, 0, []api.At{has(1, 5), has(2, 5)}},
		{[]int{0}, 0, []api.At{has(0, 5)}},
		{[]int{6}, 0, []api.At{has(6, 5)}},
		{[]int{1, 2, 3, 4, 5, 6}, 0, had(5, 1, 2, 3, 4, 5, 6)},
		{[]int{1, 2, 3, 3}, 0, had(5, 1, 2, 3)},
	} {
		commits(t, x.l, x.want, x.have...)
	}
}

// TestCommitGreat: P15.2, indices at which a lesser kind of number, or one with a sign, would turn round.
func TestCommitGreat(t *testing.T) {
	great := []uint64{0, 1, 1<<31 - 1, 1 << 31, 1<<32 - 1, 1 << 32, 1<<32 + 1, 1<<53 + 1, 1 << 62, 1<<63 - 1, 1 << 63, 1<<63 + 1, maxIndex - 1, maxIndex}
	for _, a := range great {
		commits(t, []int{4}, a, has(4, a))
		for _, b := range great {
			commits(t, []int{1, 2}, min(a, b), has(1, a), has(2, b))
			commits(t, []int{1, 2, 3}, min(a, b), has(3, a), has(1, b))
			for _, c := range great {
				commits(t, []int{1, 3, 5}, a+b+c-max(a, b, c)-min(a, b, c), has(3, a), has(5, b), has(1, c))
			}
		}
	}
}

// TestCommitOthers: P15.2, numbers that are no nodes have nothing, however they look in fewer bits.
func TestCommitOthers(t *testing.T) {
	for _, l := range all() {
		commits(t, l, 0, had(7, far...)...)
		few, enough := had(5, l[:len(l)/2]...), had(5, l[:len(l)/2+1]...)
		for _, n := range far {
			commits(t, l, 0, append(few[:len(few):len(few)], has(n, 9))...)
			commits(t, l, 5, append(enough[:len(enough):len(enough)], has(n, 9))...)
		}
	}
}

// TestCommitOfAllIndices: P15.2, of all members, each node with each of some indices, or none, by another road.
func TestCommitOfAllIndices(t *testing.T) {
	for _, l := range all() {
		for row := range rows(5, -1, 0, 1, 2, 3) {
			if len(row) < 5 {
				continue
			}
			var have []api.At
			for i, index := range row {
				if index >= 0 {
					have = append(have, has(i+1, uint64(index)))
				}
			}
			want := commit(l, have)
			commits(t, l, want, have...)
			slices.Reverse(have)
			commits(t, l, want, have...)
		}
	}
}

// TestCommitOfAllRows: P15.2, of all short rows of indices, doubles and others among them, by another road.
func TestCommitOfAllRows(t *testing.T) {
	ats := append(had(1, 1, 2, 3, 6), append(had(2, 1, 2, 3), had(3, 1, 2, 3)...)...)
	for _, l := range [][]int{{1}, {1, 2}, {1, 2, 3}, {2, 3, 4}, {1, 2, 3, 4}, {1, 2, 3, 4, 5}} {
		for row := range rows(4, 0, 1, 2, 3, 4, 5, 6, 7, 8, 9) {
			var have []api.At
			for _, i := range row {
				have = append(have, ats[i])
			}
			commits(t, l, commit(l, have), have...)
		}
	}
}

// throw throws indices by dice: of nodes that are members and of others, in any order, doubles among them.
func throw(dice *rand.Rand) []api.At {
	base := []uint64{0, 1, 1<<32 - 3, 1<<63 - 3, maxIndex - 9}[dice.Intn(5)]
	var have []api.At
	for range dice.Intn(30) {
		have = append(have, has(dice.Intn(8)-1, base+uint64(dice.Intn(9))))
	}
	return have
}

// TestCommitOfDice: P15.2 and P15.6: a majority has what Commit tells, and nothing greater; the order is nothing to it; with more, or greater, indices it is never less.
func TestCommitOfDice(t *testing.T) {
	dice := rand.New(rand.NewSource(15))
	members := all()
	for range 30000 {
		l, have := members[dice.Intn(len(members))], throw(dice)
		got := quorum.Commit(l, have...)
		commits(t, l, commit(l, have), have...)
		if who := holders(l, got, have); got > 0 && !quorum.Most(l, who) {
			t.Errorf("Commit(%v, %v): %d, which %v have", l, have, got, who)
		}
		if who := holders(l, got+1, have); got < maxIndex && quorum.Most(l, who) {
			t.Errorf("Commit(%v, %v): %d, but %v have more", l, have, got, who)
		}
		dice.Shuffle(len(have), func(i, j int) { have[i], have[j] = have[j], have[i] })
		commits(t, l, got, have...)
		if more := quorum.Commit(l, append(have[:len(have):len(have)], throw(dice)...)...); more < got {
			t.Errorf("Commit(%v, %v): %d, with more %d", l, have, got, more)
		}
		for i := range have {
			if dice.Intn(3) == 0 && have[i].Index < maxIndex {
				have[i].Index++
			}
		}
		if more := quorum.Commit(l, have...); more < got {
			t.Errorf("Commit(%v, %v): with greater ones %d, was %d", l, have, more, got)
		}
	}
}

// TestLong: the calls end soon, however much they are handed.
func TestLong(t *testing.T) {
	const n = 1 << 20
	begun := time.Now()
	var rising, falling, low []api.At
	for i := range uint64(n) {
		rising = append(rising, has(1, i))
		falling = append(falling, has(int(i%2)+1, n-i))
		low = append(low, has(int(i%7), 3))
	}
	commits(t, nodes, 0, rising...)
	commits(t, []int{1}, n-1, rising...)
	commits(t, []int{1, 2}, n-1, falling...)
	commits(t, []int{1, 3}, 0, falling...)
	commits(t, nodes, 3, low...)
	commits(t, nodes, 4, append(low, has(1, 5), has(2, 4), has(3, 9))...)
	long := make([]int, n)
	for i := range long {
		long[i] = i + 1
	}
	mosts(t, long, long, false)
	mosts(t, nodes, long, true)
	mosts(t, nodes, slices.Repeat([]int{1, 2}, n), false)
	commits(t, long, 0, rising...)
	right(t, long, false)
	if quorum.Step(long, long[:n-1]) || quorum.Step(long[:5], long[:6]) || quorum.Step(nodes, long) {
		t.Error("Step of what aren't members")
	}
	applies(t, long, false, n, nil, false)
	applies(t, long, true, n+1, nil, false)
	reads(t, string(make([]byte, 1<<28)))
	reads(t, "\x01\x01"+string(make([]byte, 1<<28)))
	if took := time.Since(begun); took > 20*time.Second {
		t.Errorf("took %s", took)
	}
}
