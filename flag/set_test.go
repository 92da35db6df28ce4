package flag_test

import (
	"math"
	"math/rand"
	"slices"
	"strconv"
	"strings"
	"testing"

	"posthorn/api"
	"posthorn/flag"
)

// known is flags in the order in which a set has them: 5 of the system, and keywords.
func known() []string {
	return append(ofSystem(), "!", "$x", "0", "10", "9", "@", "[", "_", "a", "a.", "aa", "ab", "b", "seen", "z", "zz", "|", "}", "~")
}

// among is those of known whose bits are set.
func among(bits uint32) []string {
	var l []string
	for i, f := range known() {
		if bits>>i&1 == 1 {
			l = append(l, f)
		}
	}
	return l
}

// keywords is so many keywords, rising.
func keywords(n int) []string {
	var l []string
	for i := range n {
		l = append(l, "k"+strconv.Itoa(1000+i))
	}
	return l
}

// makes checks what Make says, that it turns nothing that it was handed, and that what it says is a set.
func makes(t *testing.T, l, want []string, e api.Errno) {
	t.Helper()
	was := slices.Clone(l)
	got, gotE := flag.Make(l...)
	if !slices.Equal(got, want) || gotE != e {
		t.Errorf("Make(%.100q) = %q, %d; must be %q, %d", l, got, gotE, want, e)
	}
	if !slices.Equal(l, was) {
		t.Errorf("Make turned %.100q into %.100q", was, l)
	}
	if gotE == api.OK {
		rights(t, got, true)
	}
}

// rights checks what Right says.
func rights(t *testing.T, l []string, want bool) {
	t.Helper()
	was := slices.Clone(l)
	if got := flag.Right(l); got != want {
		t.Errorf("Right(%.100q) = %t", l, got)
	}
	if !slices.Equal(l, was) {
		t.Errorf("Right turned %.100q into %.100q", was, l)
	}
}

// changes checks what Change says, and that it turns nothing that it was handed.
func changes(t *testing.T, l []string, how int, by, want []string, e api.Errno) {
	t.Helper()
	was, byWas := slices.Clone(l), slices.Clone(by)
	got, gotE := flag.Change(l, how, by)
	if !slices.Equal(got, want) || gotE != e {
		t.Errorf("Change(%q, %d, %q) = %q, %d; must be %q, %d", l, how, by, got, gotE, want, e)
	}
	if gotE == api.OK {
		rights(t, got, true)
	}
	clear(got[:cap(got)])
	if !slices.Equal(l, was) || !slices.Equal(by, byWas) {
		t.Errorf("Change(%q, %d, %q) left %q and %q", was, how, byWas, l, by)
	}
}

// otherLetters is a flag written otherwise.
func otherLetters(dice *rand.Rand, f string) string {
	b := []byte(f)
	for i, c := range b {
		if small := c | 32; small >= 'a' && small <= 'z' && dice.Intn(2) == 0 {
			b[i] = c ^ 32
		}
	}
	return string(b)
}

// TestRight: P6.1, sets of flags, and lists that are none.
func TestRight(t *testing.T) {
	for _, l := range [][]string{
		nil, {}, {"a"}, {`\Seen`}, {`\Draft`, "a", "b"}, ofSystem(), {`\Answered`, `\Draft`}, {`\Flagged`, "!"}, {"a", "aa", "b"}, {"10", "9"}, {"z", "|", "~"},
		keywords(16), append(ofSystem(), keywords(11)...), {strings.Repeat("a", 32)},
	} {
		rights(t, l, true)
	}
	for _, l := range [][]string{
		{""}, {"a", ""}, {"", "a"}, {"a b"}, {`\`}, {`\Recent`}, {"a]"}, {"é"}, {strings.Repeat("a", 33)}, // no flags
		{"A"}, {`\seen`}, {`\SEEN`}, {"a", "B"}, {`\Seen`, `\DRAFT`}, // not as they are kept
		{"a", "a"}, {`\Seen`, `\Seen`}, {"a", "b", "a"}, {`\Seen`, "a", `\Seen`}, {"a", "A"}, {`\Seen`, `\seen`}, // twice
		{"b", "a"}, {"9", "10"}, {"aa", "a"}, {"a", `\Seen`}, {"!", `\Answered`}, {"~", `\Draft`}, {`\Draft`, `\Seen`}, {`\Flagged`, `\Answered`}, {`\Deleted`, `\Flagged`}, {`\Seen`, `\Deleted`}, // otherwise ordered
		keywords(17), keywords(18), keywords(32), keywords(33), append(ofSystem(), keywords(12)...), slices.Repeat([]string{"a"}, 17), slices.Repeat([]string{"a"}, 100000),
		append(keywords(16), ""), append(keywords(15), "k1014"),
	} {
		rights(t, l, false)
	}
}

// TestRightOfAllLists: P6.1, of all short lists of some flags, some of them not as they are kept: those of them that rise.
func TestRightOfAllLists(t *testing.T) {
	place := map[string]int{}
	for i, f := range []string{`\Answered`, `\Flagged`, `\Deleted`, `\Seen`, `\Draft`, "a", "ab", "b"} {
		place[f] = i + 1
	}
	names := []string{`\Answered`, `\Flagged`, `\Deleted`, `\Seen`, `\Draft`, "a", "ab", "b", "B", `\seen`, "", " "}
	var ask func(l []string, right bool)
	ask = func(l []string, right bool) {
		rights(t, l, right)
		for _, f := range names {
			ahead := 0
			if len(l) > 0 {
				ahead = place[l[len(l)-1]]
			}
			if len(l) < 4 {
				ask(append(l[:len(l):len(l)], f), right && place[f] > ahead)
			}
		}
	}
	ask(nil, true)
}

// TestMake: P6.2 and P6.5, sets of flags that are named.
func TestMake(t *testing.T) {
	for _, x := range []struct{ l, want []string }{
		{nil, nil},
		{[]string{}, nil},
		{[]string{"b", `\DRAFT`, "a", "B"}, []string{`\Draft`, "a", "b"}},
		{[]string{`\seen`}, []string{`\Seen`}},
		{[]string{"a", "A", "a", "A"}, []string{"a"}},
		{[]string{`\Draft`, `\Seen`, `\Deleted`, `\Flagged`, `\Answered`}, ofSystem()},
		{[]string{"!", `\answered`}, []string{`\Answered`, "!"}},
		{[]string{"~", "Z", "|", "_", "`"}, []string{"_", "`", "z", "|", "~"}}, // Z stands where z does
		{[]string{"9", "10", "aa", "a", "a.b"}, []string{"10", "9", "a", "a.b", "aa"}},
		{[]string{`\Seen`, "seen", "SEEN", `\SEEN`}, []string{`\Seen`, "seen"}},
		{append(keywords(11), ofSystem()...), append(ofSystem(), keywords(11)...)},
	} {
		makes(t, x.l, x.want, api.OK)
	}
}

// TestMakeFaults: P6.2, ErrForm wherever the text stands that names no flag, ahead of ErrFull.
func TestMakeFaults(t *testing.T) {
	for _, bad := range []string{"", " ", "a b", `\Recent`, `\`, "(a)", "a\x00", "\xff", strings.Repeat("a", 33), `"a"`} {
		makes(t, []string{bad}, nil, api.ErrForm)
		for _, n := range []int{1, 2, 15, 16, 17, 18, 40} {
			for _, at := range []int{0, n / 2, n} {
				makes(t, slices.Insert(keywords(n), at, bad), nil, api.ErrForm)
			}
		}
	}
}

// TestMakeBound: P6.2, at most 16, each counted once.
func TestMakeBound(t *testing.T) {
	for n := range 40 {
		l := keywords(n)
		back := slices.Clone(l)
		slices.Reverse(back)
		want, e := l, api.OK
		if n > 16 {
			want, e = nil, api.ErrFull
		}
		makes(t, l, want, e)
		makes(t, back, want, e)
		makes(t, append(slices.Repeat(l, 3), slices.Repeat(back, 3)...), want, e)
		for i, f := range back {
			back[i] = strings.ToUpper(f)
		}
		makes(t, append(back, l...), want, e)
	}
	makes(t, append(ofSystem(), keywords(11)...), append(ofSystem(), keywords(11)...), api.OK)
	makes(t, append(ofSystem(), keywords(12)...), nil, api.ErrFull)
	makes(t, append(keywords(12), ofSystem()...), nil, api.ErrFull)
	makes(t, append(keywords(16), `\Seen`), nil, api.ErrFull)
	makes(t, append([]string{`\Seen`}, keywords(16)...), nil, api.ErrFull)
	makes(t, slices.Repeat([]string{"a", "A", `\seen`}, 100000), []string{`\Seen`, "a"}, api.OK)
	makes(t, keywords(100000), nil, api.ErrFull)
}

// TestMakeOfDice: P6.2 and P6.5, of flags in any order, written in any letters, some of them more than once.
func TestMakeOfDice(t *testing.T) {
	dice := rand.New(rand.NewSource(6))
	for range 3000 {
		bits := dice.Uint32() & dice.Uint32() & (1<<24 - 1)
		var l []string
		for _, f := range among(bits) {
			for range 1 + dice.Intn(2) {
				l = append(l, otherLetters(dice, f))
			}
		}
		dice.Shuffle(len(l), func(i, j int) { l[i], l[j] = l[j], l[i] })
		if want := among(bits); len(want) <= 16 {
			makes(t, l, want, api.OK)
			makes(t, want, want, api.OK)
		} else {
			makes(t, l, nil, api.ErrFull)
		}
	}
}

// TestMakeNew: what Make tells is new memory, and it takes no spare room of what it was handed.
func TestMakeNew(t *testing.T) {
	l := []string{`\Seen`, "a", "b", "spare"}
	got, e := flag.Make(l[:3]...)
	clear(got[:cap(got)])
	if e != api.OK || !slices.Equal(l, []string{`\Seen`, "a", "b", "spare"}) {
		t.Errorf("%d, %q", e, l)
	}
}

// TestChange: P6.3, what is set, added and taken.
func TestChange(t *testing.T) {
	for _, x := range []struct {
		l    []string
		how  int
		by   []string
		want []string
	}{
		{nil, api.FlagsSet, nil, nil},
		{nil, api.FlagsAdd, nil, nil},
		{nil, api.FlagsTake, nil, nil},
		{[]string{`\Seen`, "a"}, api.FlagsSet, nil, nil},
		{[]string{`\Seen`, "a"}, api.FlagsAdd, nil, []string{`\Seen`, "a"}},
		{[]string{`\Seen`, "a"}, api.FlagsTake, nil, []string{`\Seen`, "a"}},
		{nil, api.FlagsSet, []string{`\Seen`, "a"}, []string{`\Seen`, "a"}},
		{nil, api.FlagsAdd, []string{`\Seen`, "a"}, []string{`\Seen`, "a"}},
		{nil, api.FlagsTake, []string{`\Seen`, "a"}, nil},
		{[]string{`\Seen`, "b"}, api.FlagsSet, []string{`\Draft`, "a"}, []string{`\Draft`, "a"}},
		{[]string{`\Seen`, "b"}, api.FlagsAdd, []string{`\Draft`, "a"}, []string{`\Seen`, `\Draft`, "a", "b"}},
		{[]string{`\Draft`, "a"}, api.FlagsAdd, []string{`\Seen`, "b"}, []string{`\Seen`, `\Draft`, "a", "b"}},
		{[]string{`\Seen`, "b"}, api.FlagsTake, []string{`\Draft`, "b"}, []string{`\Seen`}},
		{[]string{`\Seen`, "b"}, api.FlagsTake, []string{`\Seen`, "a"}, []string{"b"}},
		{[]string{`\Seen`, "seen"}, api.FlagsTake, []string{"seen"}, []string{`\Seen`}},
		{[]string{"a", "b"}, api.FlagsAdd, []string{`\Answered`}, []string{`\Answered`, "a", "b"}},
	} {
		changes(t, x.l, x.how, x.by, x.want, api.OK)
	}
	if api.FlagsSet != 0 || api.FlagsAdd != 1 || api.FlagsTake != 2 {
		t.Error("the numbers of what is done")
	}
}

// TestChangeOfAllSets: P6.3 and P6.6, any two sets of six flags, by their bits.
func TestChangeOfAllSets(t *testing.T) {
	six := func(bits uint32) []string { return among(bits&3 | bits&4<<1 | bits&8<<3 | bits&48<<9) } // some of the system, some keywords
	for l := range uint32(64) {
		for by := range uint32(64) {
			changes(t, six(l), api.FlagsSet, six(by), six(by), api.OK)
			changes(t, six(l), api.FlagsAdd, six(by), six(l|by), api.OK)
			changes(t, six(l), api.FlagsTake, six(by), six(l&^by), api.OK)
			changes(t, six(l|by), api.FlagsAdd, six(by), six(l|by), api.OK)
			changes(t, six(l&^by), api.FlagsTake, six(by), six(l&^by), api.OK)
		}
	}
}

// TestChangeOfDice: P6.3 and P6.6, of great sets, too: what is added is there, what is taken isn't, all others are as they were.
func TestChangeOfDice(t *testing.T) {
	dice := rand.New(rand.NewSource(66))
	for range 3000 {
		l, by := dice.Uint32()&dice.Uint32()&(1<<24-1), dice.Uint32()&dice.Uint32()&(1<<24-1)
		if len(among(l)) > 16 || len(among(by)) > 16 {
			continue
		}
		changes(t, among(l), api.FlagsSet, among(by), among(by), api.OK)
		changes(t, among(l), api.FlagsTake, among(by), among(l&^by), api.OK)
		if both := among(l | by); len(both) <= 16 {
			changes(t, among(l), api.FlagsAdd, among(by), both, api.OK)
		} else {
			changes(t, among(l), api.FlagsAdd, among(by), nil, api.ErrFull)
		}
	}
}

// TestChangeBound: P6.3, at most 16 of both, each counted once.
func TestChangeBound(t *testing.T) {
	all := append(ofSystem(), keywords(28)...)
	for n := range 17 {
		for m := range 17 {
			changes(t, all[:n], api.FlagsSet, all[16:16+m], all[16:16+m], api.OK)
			changes(t, all[:n], api.FlagsTake, all[16:16+m], all[:n], api.OK)
			changes(t, all[:n], api.FlagsAdd, all[:m], all[:max(n, m)], api.OK)
			if n+m <= 16 {
				changes(t, all[:n], api.FlagsAdd, all[n:n+m], all[:n+m], api.OK)
				changes(t, all[n:n+m], api.FlagsAdd, all[:n], all[:n+m], api.OK)
			} else {
				changes(t, all[:n], api.FlagsAdd, all[n:n+m], nil, api.ErrFull)
				changes(t, all[n:n+m], api.FlagsAdd, all[:n], nil, api.ErrFull)
			}
		}
	}
}

// TestChangeFaults: P6.3, lists that are no sets, and what can't be done, ahead of ErrFull.
func TestChangeFaults(t *testing.T) {
	full, other := keywords(16), []string{`\Seen`}
	for _, how := range []int{-1, -2, -3, 3, 4, 5, 16, 255, 256, 257, 1 << 16, 1 << 32, 1<<32 + 1, math.MaxInt, math.MinInt} {
		changes(t, nil, how, nil, nil, api.ErrArg)
		changes(t, []string{"a"}, how, []string{"b"}, nil, api.ErrArg)
		changes(t, full, how, other, nil, api.ErrArg)
	}
	for _, bad := range [][]string{{""}, {"A"}, {`\seen`}, {"b", "a"}, {"a", "a"}, {"a", `\Seen`}, {`\Draft`, `\Seen`}, {`\Recent`}, {"a b"}, keywords(17), append(keywords(16), "")} {
		for how := -1; how <= 3; how++ {
			changes(t, bad, how, nil, nil, api.ErrArg)
			changes(t, nil, how, bad, nil, api.ErrArg)
			changes(t, bad, how, bad, nil, api.ErrArg)
			changes(t, bad, how, full, nil, api.ErrArg)
			changes(t, full, how, bad, nil, api.ErrArg)
		}
	}
}

// TestChangeSpare: Change takes no spare room of what it was handed, and keeps none.
func TestChangeSpare(t *testing.T) {
	row := []string{`\Seen`, "a", "spare", "room", `\Draft`, "b", "more", "of it"}
	was := slices.Clone(row)
	for how := range 3 {
		got, e := flag.Change(row[:2], how, row[4:6])
		clear(got[:cap(got)])
		if e != api.OK || !slices.Equal(row, was) {
			t.Errorf("%d: %d, %q", how, e, row)
		}
	}
}
