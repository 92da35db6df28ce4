package quorum_test

import (
	"fmt"
	"slices"
	"strings"
	"testing"

	"posthorn/quorum"
)

// TestRight: P15.1, lists that are members, and lists that aren't.
func TestRight(t *testing.T) {
	for _, l := range [][]int{{1}, {5}, {1, 2}, {1, 5}, {2, 4}, {1, 2, 3}, {1, 3, 5}, {2, 3, 4, 5}, {1, 2, 3, 4, 5}} {
		right(t, l, true)
	}
	for _, l := range all() {
		right(t, l, true)
	}
	for _, l := range none() {
		right(t, l, false)
	}
}

// TestRightOfAllLists: P15.1 and P15.4, of all lists of small numbers.
func TestRightOfAllLists(t *testing.T) {
	members := 0
	for l := range rows(6, -1, 0, 1, 2, 3, 4, 5, 6) {
		want := are(l)
		if want {
			members++
		}
		if quorum.Right(l) != want || quorum.Text(l) != text(l) {
			right(t, l, want)
		}
	}
	if members != 31 {
		t.Errorf("%d members", members)
	}
}

// TestMost: P15.1, majorities and what is none: each counts once, others and doubles don't count.
func TestMost(t *testing.T) {
	for _, x := range []struct {
		l, who []int
		want   bool
	}{
		{[]int{1, 2, 3}, []int{3, 9, 1}, true},
		{[]int{1, 2, 3}, []int{1, 2, 3}, true},
		{[]int{1, 2, 3}, []int{2}, false},
		{[]int{1, 2, 3}, []int{2, 2, 2}, false},
		{[]int{1, 2, 3}, []int{2, 2, 3}, true},
		{[]int{1, 2, 3}, []int{4, 5, 1}, false},
		{[]int{1, 2, 3}, []int{4, 5, 6, 7}, false},
		{[]int{1, 2, 3}, []int{0, -1, 1}, false},
		{[]int{1, 2, 3}, nil, false},
		{[]int{1}, []int{1}, true},
		{[]int{1}, []int{2}, false},
		{[]int{1}, nil, false},
		{[]int{5}, []int{1, 2, 3, 4, 5}, true},
		{[]int{1, 2}, []int{1}, false},
		{[]int{1, 2}, []int{1, 1}, false},
		{[]int{1, 2}, []int{2, 1}, true},
		{[]int{1, 2, 4, 5}, []int{1, 2}, false},
		{[]int{1, 2, 4, 5}, []int{1, 3, 2, 3}, false},
		{[]int{1, 2, 4, 5}, []int{5, 4, 1}, true},
		{[]int{1, 2, 3, 4, 5}, []int{1, 5}, false},
		{[]int{1, 2, 3, 4, 5}, []int{5, 1, 3}, true},
		{[]int{2, 1}, []int{1, 2}, false},
		{[]int{1, 1, 1}, []int{1}, false},
		{[]int{0, 1}, []int{0, 1}, false},
		{[]int{6}, []int{6}, false},
		{nil, nil, false},
		{nil, []int{1, 2, 3}, false},
	} {
		mosts(t, x.l, x.who, x.want)
	}
	for _, l := range all() {
		mosts(t, l, far, false)
		for _, n := range far { // one that isn't a member beside all but enough
			mosts(t, l, append(slices.Repeat([]int{n}, 9), l[:len(l)/2]...), false)
			mosts(t, l, append([]int{n, n}, l[:len(l)/2+1]...), true)
		}
	}
}

// TestMostOfAllLists: P15.1, of all members and all short lists.
func TestMostOfAllLists(t *testing.T) {
	for _, l := range all() {
		for who := range rows(5, 0, 1, 2, 3, 4, 5) {
			mosts(t, l, who, most(l, who))
		}
	}
}

// TestMeet: P15.5, two majorities of members have a node in common, and so have one of members, and one of those one step on.
func TestMeet(t *testing.T) {
	for _, a := range all() {
		for _, b := range all() {
			if !slices.Equal(a, b) && !quorum.Step(a, b) {
				continue
			}
			for _, one := range all() {
				for _, two := range all() {
					if quorum.Most(a, one) && quorum.Most(b, two) && !slices.ContainsFunc(one, func(node int) bool { return slices.Contains(two, node) }) {
						t.Errorf("%v of %v, and %v of %v", one, a, two, b)
					}
				}
			}
		}
	}
}

// TestStep: P15.3, one more or one less.
func TestStep(t *testing.T) {
	for _, x := range []struct {
		a, b []int
		want bool
	}{
		{[]int{1, 2}, []int{1, 2, 4}, true},
		{[]int{1, 2, 4}, []int{1, 2}, true},
		{[]int{1, 2}, []int{1, 3}, false},
		{[]int{1, 2}, []int{1, 2}, false},
		{[]int{1, 2}, []int{3, 4, 5}, false},
		{[]int{1, 2}, []int{1, 3, 4}, false},
		{[]int{1, 2}, []int{1, 2, 3, 4}, false},
		{[]int{1}, []int{1, 5}, true},
		{[]int{5}, []int{1, 5}, true},
		{[]int{1}, []int{2, 5}, false},
		{[]int{1}, []int{2}, false},
		{[]int{1}, nil, false},
		{nil, []int{1}, false},
		{nil, nil, false},
		{[]int{1, 2}, []int{2, 1, 4}, false},
		{[]int{2, 1}, []int{1, 2, 4}, false},
		{[]int{1, 2}, []int{1, 2, 2}, false},
		{[]int{1, 2}, []int{0, 1, 2}, false},
		{[]int{1, 2}, []int{1, 2, 6}, false},
		{[]int{1, 2, 3, 4, 5}, []int{1, 2, 3, 4, 5, 6}, false},
		{[]int{1, 2, 3, 4, 5}, []int{1, 2, 4, 5}, true},
	} {
		if got := quorum.Step(x.a, x.b); got != x.want {
			t.Errorf("Step(%v, %v): %t", x.a, x.b, got)
		}
	}
}

// TestStepOfAll: P15.3, of all members and what are none, with one another.
func TestStepOfAll(t *testing.T) {
	n := 0
	both := append(all(), none()...)
	for _, a := range both {
		for _, b := range both {
			want := steps(a, b)
			if got := quorum.Step(a, b); got != want {
				t.Errorf("Step(%v, %v): %t", a, b, got)
			}
			if want {
				n++
			}
		}
	}
	if n != 150 { // five nodes to turn in each of 32 sets, but not to and from the empty one
		t.Errorf("%d steps", n)
	}
}

// TestApply: P15.3, members with a node, without it, and what may not be.
func TestApply(t *testing.T) {
	for _, x := range []struct {
		l    []int
		add  bool
		n    int
		want []int
	}{
		{[]int{1, 3}, true, 2, []int{1, 2, 3}},
		{[]int{2, 3}, true, 1, []int{1, 2, 3}},
		{[]int{1, 3}, true, 5, []int{1, 3, 5}},
		{[]int{1, 2, 3, 4}, true, 5, []int{1, 2, 3, 4, 5}},
		{[]int{3}, true, 1, []int{1, 3}},
		{[]int{1, 3}, true, 3, nil},
		{[]int{1, 3}, true, 0, nil},
		{[]int{1, 3}, true, 6, nil},
		{[]int{1, 2, 3, 4, 5}, true, 1, nil},
		{[]int{1, 2, 3, 4, 5}, true, 6, nil},
		{[]int{1, 2, 3}, false, 1, []int{2, 3}},
		{[]int{1, 2, 3}, false, 2, []int{1, 3}},
		{[]int{1, 2, 3}, false, 3, []int{1, 2}},
		{[]int{1, 2, 3, 4, 5}, false, 4, []int{1, 2, 3, 5}},
		{[]int{1, 2}, false, 1, []int{2}},
		{[]int{1, 2}, false, 3, nil},
		{[]int{1, 2}, false, 0, nil},
		{[]int{1, 2}, false, 6, nil},
		{[]int{1}, false, 1, nil},
		{[]int{1}, false, 2, nil},
		{[]int{5}, false, 5, nil},
		{nil, true, 1, nil},
		{nil, false, 1, nil},
		{[]int{2, 1}, true, 3, nil},
		{[]int{2, 1}, false, 1, nil},
		{[]int{1, 1}, false, 1, nil},
		{[]int{0, 1}, false, 0, nil},
		{[]int{1, 6}, false, 6, nil},
		{[]int{1, 2, 3, 4, 5, 6}, false, 6, nil},
	} {
		applies(t, x.l, x.add, x.n, x.want, x.want != nil)
	}
}

// TestApplyOfAll: P15.3 and P15.7, of all members and what are none: Apply is a Step, and the opposite one leads back.
func TestApplyOfAll(t *testing.T) {
	numbers := append([]int{1, 2, 3, 4, 5}, far...)
	changed := 0
	for _, add := range []bool{true, false} {
		for _, n := range numbers {
			for _, l := range append(all(), none()...) {
				want, ok := with(l, add, n)
				applies(t, l, add, n, want, ok)
				if !ok {
					continue
				}
				changed++
				if !quorum.Step(l, want) || !quorum.Step(want, l) {
					t.Errorf("Apply(%v, %t, %d) is no step", l, add, n)
				}
				applies(t, want, !add, n, l, true)
			}
		}
	}
	if changed != 150 {
		t.Errorf("%d changes", changed)
	}
}

// TestStepIsApply: P15.3, what is a step is what an Apply tells.
func TestStepIsApply(t *testing.T) {
	for _, a := range all() {
		for _, b := range all() {
			applied := false
			for _, n := range nodes {
				for _, add := range []bool{true, false} {
					next, _ := quorum.Apply(a, add, n)
					applied = applied || slices.Equal(next, b)
				}
			}
			if applied != quorum.Step(a, b) {
				t.Errorf("%v, %v: by Apply %t", a, b, applied)
			}
		}
	}
}

// TestText: P15.4, members as bytes, and back.
func TestText(t *testing.T) {
	for want, l := range map[string][]int{"\x02\x01\x03": {1, 3}, "\x01\x05": {5}, "\x05\x01\x02\x03\x04\x05": {1, 2, 3, 4, 5}} {
		if got := quorum.Text(l); got != want {
			t.Errorf("Text(%v): %x", l, got)
		}
		reads(t, want, l...)
	}
	for _, l := range all() {
		writes(t, l)
		reads(t, text(l), l...)
	}
	for _, l := range none() {
		if got := quorum.Text(l); got != "" {
			t.Errorf("Text(%v): %x", l, got)
		}
	}
}

// number is a number's bytes, by another road.
func number(n uint64) string {
	if n < 128 {
		return string([]byte{byte(n)})
	}
	return string([]byte{byte(n) | 128}) + number(n>>7)
}

// listed is a list's bytes, whatever numbers stand in it.
func listed(n uint64, l ...uint64) string {
	s := number(n)
	for _, x := range l {
		s += number(x)
	}
	return s
}

// TestReadNone: P15.4, texts that are of no members.
func TestReadNone(t *testing.T) {
	for _, s := range []string{
		"", "\x00", "\x00\x00", "\x01", "\x01\x00", "\x01\x06", "\x01\x01\x02", "\x02\x01", "\x02\x01\x01", "\x02\x02\x01", "\x02\x00\x01", "\x02\x01\x02\x00", "\x03\x01\x02\x03\x04",
		"\x06\x01\x02\x03\x04\x05\x06", "\x06\x00\x01\x02\x03\x04\x05", "\x05\x01\x02\x03\x04\x06", "\x05\x00\x01\x02\x03\x04", "\x81\x00\x01", "\x01\x81\x00", "\x01\x81\x80\x00", "\x81\x01\x01", "\x01\x81", "\x81", "\xff", "12", "\x01\x01\n", " \x01\x01",
		listed(1<<32+1, 1), listed(1<<63, 1), listed(1<<63+1, 1), listed(maxIndex, 1), listed(257, 1), listed(129, 1), listed(1, 1<<32+1), listed(1, 257), listed(1, 129), listed(1, 1<<63+1), listed(1, maxIndex), listed(2, 1, 1<<32+2), listed(2, maxIndex, 1), listed(2, maxIndex-1, 2),
		strings.Repeat("\xff", 10), "\x01" + strings.Repeat("\xff", 10), strings.Repeat("\xff", 9) + "\x02", strings.Repeat("\x01", 1000), fmt.Sprint([]int{1, 2}),
	} {
		reads(t, s)
	}
}

// TestReadTurned: P15.4, texts of members that are cut off, have something behind or ahead, or one byte turned, dropped or doubled.
func TestReadTurned(t *testing.T) {
	texts := map[string][]int{}
	for _, l := range all() {
		texts[text(l)] = l
	}
	for s := range texts {
		for at := range len(s) + 1 {
			reads(t, s[:at], texts[s[:at]]...)
			reads(t, s[at:], texts[s[at:]]...)
			for b := range 256 {
				c := string([]byte{byte(b)})
				more := s[:at] + c + s[at:]
				reads(t, more, texts[more]...)
				if at < len(s) {
					other := s[:at] + c + s[at+1:]
					reads(t, other, texts[other]...)
				}
			}
			if at < len(s) {
				less := s[:at] + s[at+1:]
				reads(t, less, texts[less]...)
			}
		}
	}
}

// TestReadOfAllTexts: P15.4, of all short texts: what is read is the members whose Text it is.
func TestReadOfAllTexts(t *testing.T) {
	texts := map[string][]int{}
	for _, l := range all() {
		texts[text(l)] = l
	}
	found := 0
	for row := range rows(6, 0, 1, 2, 3, 4, 5, 6, 0x80, 0x81) {
		var b []byte
		for _, n := range row {
			b = append(b, byte(n))
		}
		s := string(b)
		if texts[s] != nil {
			found++
		}
		reads(t, s, texts[s]...)
	}
	for b := range 1 << 16 {
		s := string([]byte{byte(b >> 8), byte(b)})
		reads(t, s, texts[s]...)
	}
	if found != 31 {
		t.Errorf("%d of 31", found)
	}
}
