package reply_test

import (
	"math/rand"
	"slices"
	"strings"
	"testing"

	"posthorn/api"
	"posthorn/reply"
)

// oneOf is one of a list.
func oneOf[T any](dice *rand.Rand, l ...T) T { return l[dice.Intn(len(l))] }

// odd is a text of some awkward bytes, mostly short.
func odd(dice *rand.Rand, of string) string {
	n := dice.Intn(1 + dice.Intn(8))
	if dice.Intn(50) == 0 {
		n = oneOf(dice, 31, 32, 33, 63, 64, 65, 511, 512, 513, 4095, 4096, 4097)
	}
	b := make([]byte, n)
	for i := range b {
		b[i] = of[dice.Intn(len(of))]
	}
	return string(b)
}

func anyNumber(dice *rand.Rand) uint64 {
	return oneOf(dice, 0, 1, 7, 10, 1<<32, 1<<63-1, uint64(dice.Intn(100)), uint64(dice.Int63()), uint64(dice.Int63())>>dice.Intn(63))
}

func anyFlags(dice *rand.Rand) []string {
	all := strings.Fields(`\Answered \Flagged \Deleted \Seen \Draft !x 0 [ a b ba c d e f g h i j k l m n ~`)
	bits, upTo := dice.Uint32()&dice.Uint32(), 8
	if dice.Intn(4) == 0 {
		bits, upTo = dice.Uint32()|dice.Uint32(), 23
	}
	var l []string
	for i, f := range all[:upTo] {
		if bits>>i&1 == 1 {
			l = append(l, f)
		}
	}
	return l
}

func anyBox(dice *rand.Rand) string {
	return oneOf(dice, "INBOX", "x", "nil", "a b", "(x)", "a/b", odd(dice, "aB1/"), odd(dice, "a ]{()"), odd(dice, "aN"))
}

func anyPlain(dice *rand.Rand) string {
	return oneOf(dice, "x", "done", " ", odd(dice, "ab [-."), odd(dice, "a ]~("))
}

func anyValues(dice *rand.Rand, from, to int) []api.Value {
	n := 1 + dice.Intn(4)
	if dice.Intn(30) == 0 {
		n = oneOf(dice, 0, 9, 10, 11)
	}
	var l []api.Value
	for range n {
		v := api.Value{Kind: from + dice.Intn(to-from+1)}
		switch {
		case v.Kind == api.ItemFlags:
			v.Flags = anyFlags(dice)
		case v.Kind >= api.ItemBody:
			v.Text = oneOf(dice, "", crlf, ")", "x UID 1)"+crlf, odd(dice, "a)(\r\n\x00\xff{}"), odd(dice, "a "))
			if dice.Intn(2) == 0 {
				v.Part, v.From = true, anyNumber(dice)
			}
		default:
			v.N = anyNumber(dice)
		}
		l = append(l, v)
	}
	return l
}

// anyReply is a reply, or almost one.
func anyReply(dice *rand.Rand) api.Reply {
	r := api.Reply{Kind: 1 + dice.Intn(14)}
	switch r.Kind {
	case api.RepOk, api.RepNo, api.RepBad:
		r.Tag, r.Text = oneOf(dice, "*", "a", "A.1", odd(dice, "ab1.]")), anyPlain(dice)
		if dice.Intn(2) == 0 {
			r.Code = anyPlain(dice)
		}
	case api.RepBye:
		r.Tag, r.Text, r.Code = "*", anyPlain(dice), oneOf(dice, "", anyPlain(dice))
	case api.RepGo:
		r.Text = anyPlain(dice)
	case api.RepExists, api.RepExpunge:
		r.N = anyNumber(dice)
	case api.RepFlags:
		r.Flags = anyFlags(dice)
	case api.RepList:
		r.Box = anyBox(dice)
	case api.RepStatus:
		r.Box, r.Values = anyBox(dice), anyValues(dice, api.ItemMessages, api.ItemHighest)
	case api.RepSearch:
		for range oneOf(dice, 0, 1, dice.Intn(5), dice.Intn(67)) {
			r.Nums = append(r.Nums, anyNumber(dice))
		}
		r.Mod = oneOf(dice, 0, anyNumber(dice))
	case api.RepFetch:
		r.N, r.Values = anyNumber(dice), anyValues(dice, api.ItemFlags, api.ItemText)
	}
	return r
}

// spoil turns something of a reply, which mostly is none any more.
func spoil(dice *rand.Rand, r *api.Reply) {
	switch dice.Intn(5) {
	case 0:
		r.Kind = dice.Intn(16)
	case 1, 2:
		if len(r.Values) > 0 {
			v := &r.Values[dice.Intn(len(r.Values))]
			valueFields()[oneOf(dice, "N", "Flags", "Text", "Part", "From")](v)
			v.Kind = oneOf(dice, v.Kind, v.Kind, dice.Intn(14))
		}
	case 3:
		r.N, r.Text = oneOf(dice, r.N, 1<<63), oneOf(dice, r.Text, "[x", "x"+crlf, "")
	default:
		fields()[oneOf(dice, "Tag", "Code", "Text", "N", "Nums", "Mod", "Flags", "Box", "Values")](r)
	}
}

// TestPrintOfDice: P9.1 and P9.3, of replies and of others, by another road.
func TestPrintOfDice(t *testing.T) {
	dice := rand.New(rand.NewSource(91))
	var are int
	for range 100000 {
		r := anyReply(dice)
		for dice.Intn(3) == 0 {
			spoil(dice, &r)
		}
		text, ok := said(r)
		if !ok {
			isNone(t, r)
		} else if got, e := reply.Print(r); got != text || e != api.OK {
			t.Errorf("Print(%+v) = %q, %d; must be %q", r, short(got), e, short(text))
		} else {
			reads(t, text, r, len(text))
			reads(t, text+oneOf(dice, behind()...), r, len(text))
			are++
		}
		if t.Failed() {
			return
		}
	}
	if are < 30000 || are > 90000 {
		t.Errorf("%d of them are replies", are)
	}
}

// spoilText turns some bytes of a text.
func spoilText(dice *rand.Rand, s string) string {
	for range 1 + dice.Intn(3) {
		at := dice.Intn(len(s) + 1)
		upTo := min(len(s), at+dice.Intn(4))
		s = s[:at] + oneOf(dice, "", "", " ", "(", ")", `"`, `\`, "{", "}", "{1}"+crlf, crlf, "\r", "<", ">", "0", "1", "*", "+", "[", "]", "x", "N", "UID 1", " UID 1", "FLAGS ()", "BODY[] ", "UNSEEN 1", "* ", "\x00", "\xff") + s[upTo:]
	}
	return s
}

// TestReadOfDice: P9.2 and P9.4, of texts of which some bytes were turned, by another road.
func TestReadOfDice(t *testing.T) {
	dice := rand.New(rand.NewSource(92))
	var are int
	for range 100000 {
		text, _ := said(anyReply(dice))
		if asks(t, spoilText(dice, text)) {
			are++
		}
		if t.Failed() {
			return
		}
	}
	if are < 5000 || are > 90000 {
		t.Errorf("%d of them begin with a reply", are)
	}
}

// TestRowsOfReplies: P9.5, one behind the other, and nothing behind the last; cut off anywhere, those that are whole.
func TestRowsOfReplies(t *testing.T) {
	dice := rand.New(rand.NewSource(95))
	for range 300 {
		var row strings.Builder
		var want []api.Reply
		for range dice.Intn(20) {
			r := anyReply(dice)
			if text, e := reply.Print(r); e == api.OK {
				row.WriteString(text)
				want = append(want, r)
			}
		}
		s := row.String()
		got, left := each(s)
		if left != "" || !slices.EqualFunc(got, want, alike) {
			t.Fatalf("of %q: %+v, %q is left; must be %+v", short(s), got, left, want)
		}
		cut := s[:dice.Intn(len(s)+1)]
		got, left = each(cut)
		if len(got) > len(want) || !slices.EqualFunc(got, want[:len(got)], alike) {
			t.Fatalf("of %q, cut: %+v", short(cut), got)
		}
		if whole := strings.TrimSuffix(cut, left); left != "" {
			refuses(t, left)
			if more, _ := each(s[len(whole):]); len(more)+len(got) != len(want) {
				t.Fatalf("of %q, cut: %d and %d, must be %d", short(cut), len(got), len(more), len(want))
			}
		}
	}
}

// each reads replies one by one, up to what is none.
func each(s string) ([]api.Reply, string) {
	var l []api.Reply
	for {
		r, n, e := reply.Read(s)
		if e != api.OK {
			return l, s
		}
		l, s = append(l, r), s[n:]
	}
}

// TestOneText: P9.4, replies that aren't alike have unlike texts, none of which begins with another one.
func TestOneText(t *testing.T) {
	dice := rand.New(rand.NewSource(94))
	texts := map[string]api.Reply{}
	for range 20000 {
		r := anyReply(dice)
		text, e := reply.Print(r)
		if e != api.OK {
			continue
		}
		if other, ok := texts[text]; ok && !alike(other, r) {
			t.Fatalf("%q is the text of %+v and of %+v", short(text), r, other)
		}
		texts[text] = r
	}
	l := make([]string, 0, len(texts))
	for text := range texts {
		l = append(l, text)
	}
	slices.Sort(l)
	for i := range l[1:] {
		if strings.HasPrefix(l[i+1], l[i]) {
			t.Errorf("%q begins with %q", short(l[i+1]), short(l[i]))
		}
	}
}
