package match_test

import (
	"math/rand"
	"slices"
	"strings"
	"testing"

	"posthorn/api"
	"posthorn/grammar"
	"posthorn/match"
)

// otherMatch goes by another road, from the last node on: each takes from a heap what those that stand ready behind it say. The keys are whole.
func otherMatch(l []api.Key, y meant) bool {
	var ready []bool
	for _, k := range slices.Backward(l) {
		last := len(ready) - 1
		switch k.Kind {
		case api.KeyAnd:
			all := !slices.Contains(ready[len(ready)-k.Kids:], false)
			ready = append(ready[:len(ready)-k.Kids], all)
		case api.KeyNot:
			ready[last] = !ready[last]
		case api.KeyOr:
			ready = append(ready[:last-1], ready[last] != ready[last-1] || ready[last])
		default:
			ready = append(ready, otherAlone(k, y))
		}
	}
	return ready[0]
}

// otherAlone is what a key without kids says, by another road.
func otherAlone(k api.Key, y meant) bool {
	head, text, _ := strings.Cut(y.m, crlf+crlf)
	switch k.Kind {
	case api.KeySet:
		return slices.Contains(counted(k.Set, y.at.MostSeq), y.at.Seq)
	case api.KeyUid:
		return slices.Contains(counted(k.Set, y.at.MostUid), y.x.Uid)
	case api.KeyFlag:
		return strings.Contains(" "+strings.Join(y.x.Flags, " ")+" ", " "+k.Field+" ") != (k.N == 0)
	case api.KeyLarger:
		return !(y.x.Size <= k.N)
	case api.KeySmaller:
		return !(y.x.Size >= k.N)
	case api.KeyModseq:
		return !(y.x.Mod < k.N)
	case api.KeyText:
		return strings.Contains(strings.ToUpper(y.m), strings.ToUpper(k.Text))
	case api.KeyBody:
		return strings.Contains(strings.ToUpper(text), strings.ToUpper(k.Text))
	case api.KeyHeader:
		for line := range strings.SplitSeq(head, crlf) {
			if name, value, ok := strings.Cut(line, ": "); ok && strings.EqualFold(name, k.Field) {
				return strings.Contains(strings.ToUpper(value), strings.ToUpper(k.Text))
			}
		}
		return false
	}
	return true
}

// counted is all numbers of small ranges.
func counted(l []api.Range, most uint64) []uint64 {
	var of []uint64
	for _, r := range l {
		for _, n := range []*uint64{&r.From, &r.To} {
			if *n == 0 {
				*n = most
			}
		}
		for n := min(r.From, r.To); n <= max(r.From, r.To); n++ {
			of = append(of, n)
		}
	}
	return of
}

// anyText is a text that often stands in one that is thrown by it, too.
func anyText(dice *rand.Rand) string {
	return among(dice, "", "a", "B", "ab", "Ab", "ba", "aBa", "c", "a: b")
}

// anyLetter is a letter of small numbers, in a small view, with a message of ASCII whose fields stand on a line each.
func anyLetter(dice *rand.Rand) meant {
	small := func() uint64 { return uint64(dice.Intn(6)) }
	y := meant{x: api.Letter{Uid: 1 + small(), Mod: small(), Size: small(), Hash: "h"}, at: api.Place{Seq: 1 + small(), MostSeq: small(), MostUid: small()}}
	for _, f := range []string{`\Deleted`, `\Seen`, "a", "seen"} {
		if dice.Intn(2) == 0 {
			y.x.Flags = append(y.x.Flags, f)
		}
	}
	y.m = "X: " + anyText(dice)
	for range dice.Intn(4) {
		y.m += crlf + among(dice, "Subject: ", "subject: ", "From: ", "To: ") + anyText(dice) + anyText(dice)
	}
	if dice.Intn(8) > 0 {
		y.m += crlf + crlf + anyText(dice) + anyText(dice)
	}
	return y
}

// anyAlone is a key without kids.
func anyAlone(dice *rand.Rand) api.Key {
	k := api.Key{Kind: api.KeyAll + dice.Intn(10)}
	small := func() uint64 { return uint64(dice.Intn(7)) }
	switch k.Kind {
	case api.KeySet, api.KeyUid:
		for range 1 + dice.Intn(2) {
			k.Set = append(k.Set, api.Range{From: small(), To: small()})
		}
	case api.KeyFlag:
		k.Field, k.N = among(dice, `\Deleted`, `\Seen`, `\Draft`, "a", "seen", "see"), uint64(dice.Intn(2))
	case api.KeyLarger, api.KeySmaller, api.KeyModseq:
		k.N = small()
	case api.KeyText, api.KeyBody:
		k.Text = anyText(dice)
	case api.KeyHeader:
		k.Field, k.Text = among(dice, "subject", "FROM", "To", "x", "y"), anyText(dice)
	}
	return k
}

// anyKeys is a key with its kids, mostly of no more nodes than most.
func anyKeys(dice *rand.Rand, deep, most int) []api.Key {
	l := grown(dice, deep, most)
	for i, k := range l {
		if k.Kind > api.KeyOr {
			l[i] = anyAlone(dice)
		}
	}
	return l
}

// TestTables: P11.2, what AND, NOT and OR say of all that their kids may say, in one another too.
func TestTables(t *testing.T) {
	say := func(b bool) api.Key {
		if b {
			return yes
		}
		return no
	}
	both := []bool{false, true}
	for _, a := range both {
		says(t, keys(say(a)), horn(), a)
		says(t, keys(not, say(a)), horn(), !a)
		says(t, keys(not, not, say(a)), horn(), a)
		says(t, keys(and(1), say(a)), horn(), a)
		for _, b := range both {
			says(t, keys(and(2), say(a), say(b)), horn(), a && b)
			says(t, keys(or, say(a), say(b)), horn(), a || b)
			for _, c := range both {
				says(t, keys(and(3), say(a), say(b), say(c)), horn(), a && b && c)
				says(t, keys(or, and(2), say(a), say(b), say(c)), horn(), a && b || c)
				says(t, keys(or, say(a), and(2), say(b), say(c)), horn(), a || b && c)
				says(t, keys(and(2), or, say(a), say(b), say(c)), horn(), (a || b) && c)
				says(t, keys(and(2), say(a), or, say(b), say(c)), horn(), a && (b || c))
				says(t, keys(or, not, say(a), and(2), say(b), not, say(c)), horn(), !a || b && !c)
				says(t, keys(or, or, say(a), not, say(b), say(c)), horn(), a || !b || c)
				says(t, keys(and(2), and(2), say(a), not, say(b), say(c)), horn(), a && !b && c)
			}
		}
	}
	for n := 1; n < 32; n++ { // one of n kids is enough to turn what an AND says, wherever it stands
		l := append(keys(and(n)), slices.Repeat(keys(yes), n)...)
		says(t, l, horn(), true)
		for at := range n {
			l[1+at] = no
			says(t, l, horn(), false)
			l[1+at] = yes
		}
	}
}

// TestDice: P11.2, keys and letters of dice, by another road; most of them whole.
func TestDice(t *testing.T) {
	dice := rand.New(rand.NewSource(112))
	said := map[bool]int{}
	for range 60000 {
		l, y := anyKeys(dice, dice.Intn(7), 1+dice.Intn(30)), anyLetter(dice)
		if !otherWhole(l) {
			whole(t, l, false)
			continue
		}
		want := otherMatch(l, y)
		whole(t, l, true)
		says(t, l, y, want)
		said[want]++
		if t.Failed() {
			return
		}
	}
	if min(said[false], said[true]) < 15000 {
		t.Error(said)
	}
}

// TestLogic: P11.3, of keys and letters of dice.
func TestLogic(t *testing.T) {
	dice := rand.New(rand.NewSource(113))
	for range 20000 {
		y := anyLetter(dice)
		a, b := anyKeys(dice, dice.Intn(5), 9), anyKeys(dice, dice.Intn(5), 9)
		saysA, saysB := match.Match(a, y.x, y.at, y.m), match.Match(b, y.x, y.at, y.m)
		says(t, slices.Concat(keys(not), a), y, !saysA)
		says(t, slices.Concat(keys(not, not), a), y, saysA)
		says(t, slices.Concat(keys(and(1)), a), y, saysA)
		for _, ab := range [][]api.Key{slices.Concat(a, b), slices.Concat(b, a)} {
			says(t, slices.Concat(keys(or), ab), y, saysA || saysB)
			says(t, slices.Concat(keys(and(2)), ab), y, saysA && saysB)
		}
		says(t, slices.Concat(keys(not, or), a, b), y, !saysA && !saysB)
		says(t, slices.Concat(keys(and(2), not), a, keys(not), b), y, !saysA && !saysB)
		says(t, slices.Concat(keys(not, and(2)), a, b), y, !saysA || !saysB)
		says(t, slices.Concat(keys(or, not), a, keys(not), b), y, !saysA || !saysB)
		if t.Failed() {
			return
		}
	}
}

// TestBytes: P11.4, keys that don't want a message's bytes say the same of any.
func TestBytes(t *testing.T) {
	dice := rand.New(rand.NewSource(114))
	var without, with int
	for range 20000 {
		l, y := anyKeys(dice, dice.Intn(6), 1+dice.Intn(25)), anyLetter(dice)
		was := match.Match(l, y.x, y.at, y.m)
		turned := false
		for _, m := range []string{"", crlf, "a", "Subject: ab" + crlf + "To: b" + crlf + "From: ba" + crlf + crlf + "abaac", strings.Repeat("\xff", 4097), anyLetter(dice).m} {
			turned = turned || match.Match(l, y.x, y.at, m) != was
		}
		if match.Wants(l) {
			with++
		} else {
			without++
		}
		if turned && !match.Wants(l) {
			t.Fatalf("other bytes turn what %v say of %v", l, y)
		}
	}
	if min(with, without) < 4000 {
		t.Error(with, without)
	}
	for _, s := range []string{"TEXT x", "BODY x", "HEADER y x"} { // and those that do may say something else
		y := horn()
		y.m = "y: x" + crlf + crlf + "x"
		says(t, search(t, s), y, true)
		y.m = "y: z"
		says(t, search(t, s), y, false)
	}
}

// TestOfGrammar: the keys that layer 8 tells are whole.
func TestOfGrammar(t *testing.T) {
	dice := rand.New(rand.NewSource(115))
	words := strings.Fields("( ) NOT OR ALL SEEN UNDRAFT 3 UID 2:*")
	words = append(words, "KEYWORD b", "LARGER 3", "TEXT x", "BODY y", "HEADER a b", "SUBJECT z", "MODSEQ 9")
	told := 0
	for range 100000 {
		l := []string{}
		for range 1 + dice.Intn(7) {
			l = append(l, among(dice, words...))
		}
		s := strings.NewReplacer("( ", "(", " )", ")").Replace(strings.Join(l, " "))
		c, e := grammar.Parse("s SEARCH " + s)
		if e != api.OK {
			continue
		}
		told++
		whole(t, c.Keys, true)
		if match.Wants(c.Keys) != (strings.Contains(s, "TEXT") || strings.Contains(s, "BODY") || strings.Contains(s, "HEADER") || strings.Contains(s, "SUBJECT")) {
			t.Errorf("Wants of %s", s)
		}
	}
	if told < 5000 {
		t.Error(told)
	}
	whole(t, search(t, "ALL"+strings.Repeat(" ALL", 30)), true) // its most nodes
	whole(t, search(t, strings.Repeat("NOT ", 7)+"ALL"), true)  // its deepest
	whole(t, search(t, strings.Repeat("(", 7)+"ALL"+strings.Repeat(")", 7)+strings.Repeat(" OR ALL ALL", 7)), true)
}
