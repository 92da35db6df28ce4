package grammar_test

import (
	"math/rand"
	"strings"
	"testing"

	"posthorn/api"
	"posthorn/grammar"
)

// oneOf is one of a list.
func oneOf[T any](dice *rand.Rand, l ...T) T { return l[dice.Intn(len(l))] }

// odd is a text of some awkward bytes, mostly short.
func odd(dice *rand.Rand, of string) string {
	n := dice.Intn(1 + dice.Intn(8))
	if dice.Intn(50) == 0 {
		n = oneOf(dice, 32, 33, 64, 65, 511, 512, 513, 4096, 4097)
	}
	b := make([]byte, n)
	for i := range b {
		b[i] = of[dice.Intn(len(of))]
	}
	return string(b)
}

func anyText(dice *rand.Rand) string {
	return oneOf(dice, "", "nil", "x", "NIL", "{1}"+crlf+"x", `"x"`, "(ALL)", odd(dice, "ab1.-"), odd(dice, `aB1 ()*%"\]{`), odd(dice, "a \x00\r\n\xff\x7f"))
}

func anyBox(dice *rand.Rand) string {
	return oneOf(dice, "INBOX", "INBOX", "x", "nil", "a b", "(x)", "a/b", odd(dice, "aB1/"), odd(dice, "a ]{()"), odd(dice, `a *%"\`))
}

func anySet(dice *rand.Rand) []api.Range {
	n := 1 + dice.Intn(4)
	if dice.Intn(60) == 0 {
		n = oneOf(dice, 0, 63, 64, 65)
	}
	var l []api.Range
	for range n {
		from := oneOf(dice, 0, 1, 7, 10, 1<<32-1, uint64(dice.Uint32()))
		l = append(l, api.Range{From: from, To: oneOf(dice, 0, from, from, 12, uint64(dice.Uint32()))})
	}
	return l
}

func anyFlags(dice *rand.Rand) []string {
	bits, upTo := dice.Uint32()&dice.Uint32(), 24
	if dice.Intn(4) > 0 {
		upTo = 8
	}
	var l []string
	for i, f := range strings.Fields(`\Answered \Flagged \Deleted \Seen \Draft !x 0 [ a b ba c d e f g h i j k l m n ~`)[:upTo] {
		if bits>>i&1 == 1 {
			l = append(l, f)
		}
	}
	return l
}

func anyItems(dice *rand.Rand, from, to int) []api.Item {
	n := 1 + dice.Intn(4)
	if dice.Intn(40) == 0 {
		n = oneOf(dice, 0, 7, 8, 9)
	}
	var l []api.Item
	for range n {
		x := api.Item{Kind: from + dice.Intn(to-from+1)}
		if x.Kind >= api.ItemBody {
			x.Peek = dice.Intn(2) == 0
			if x.Part = dice.Intn(2) == 0; x.Part {
				x.From, x.Count = oneOf(dice, 0, 0, 1, 1<<32-1, uint64(dice.Intn(5000))), oneOf(dice, 1, 1, 9, 1<<32-1, uint64(1+dice.Intn(5000)))
			}
		}
		l = append(l, x)
	}
	return l
}

func anySince(dice *rand.Rand) uint64 { return oneOf(dice, 0, 1, 9, 1<<63-1, uint64(dice.Int63())) }

// anyKey is a key with its kids.
func anyKey(dice *rand.Rand, nest int) []api.Key {
	k := api.Key{Kind: 1 + dice.Intn(13)}
	if nest > 1 && dice.Intn(3) == 0 {
		k.Kind = 1 + dice.Intn(3)
	}
	kids := 0
	switch k.Kind {
	case api.KeyAnd:
		kids = 1 + dice.Intn(3)
		k.Kids = kids
	case api.KeyNot:
		kids = 1
	case api.KeyOr:
		kids = 2
	case api.KeySet, api.KeyUid:
		k.Set = anySet(dice)
	case api.KeyFlag:
		k.N = uint64(dice.Intn(2))
		k.Field = oneOf(dice, `\Answered`, `\Flagged`, `\Deleted`, `\Seen`, `\Draft`, "work", "nil", "seen", "-", strings.Repeat("k", 32))
	case api.KeyLarger, api.KeySmaller, api.KeyModseq:
		k.N = anySince(dice)
	case api.KeyText, api.KeyBody:
		k.Text = anyText(dice)
	case api.KeyHeader:
		k.Field, k.Text = oneOf(dice, "subject", "from", "to", "x-y", "nil", `"`, "a(b)", "0", strings.Repeat("f", 32)), anyText(dice)
	}
	l := []api.Key{k}
	for range kids {
		if nest <= 0 {
			l = append(l, api.Key{Kind: api.KeyAll})
		} else {
			l = append(l, anyKey(dice, nest-1)...)
		}
	}
	return l
}

func anyKeys(dice *rand.Rand) []api.Key {
	l := []api.Key{{Kind: api.KeyAnd, Kids: 1 + dice.Intn(4)}}
	for range l[0].Kids {
		l = append(l, anyKey(dice, dice.Intn(6))...)
	}
	return l
}

// anyCommand is a command, which mostly may be.
func anyCommand(dice *rand.Rand) api.Command {
	c := api.Command{Tag: oneOf(dice, "a", "A1", "UID", "*", "t.0", "", "nil", "a+", odd(dice, "aZ0.")), Kind: 1 + dice.Intn(18)}
	switch c.Kind {
	case api.CmdLogin:
		c.User, c.Pass = anyText(dice), anyText(dice)
	case api.CmdSelect, api.CmdExamine:
		c.Box, c.Cond = anyBox(dice), dice.Intn(2) == 0
	case api.CmdCreate, api.CmdDelete:
		c.Box = anyBox(dice)
	case api.CmdList:
		c.Pattern = oneOf(dice, anyText(dice), odd(dice, "a%*"), "*", "%")
	case api.CmdStatus:
		c.Box, c.Items = anyBox(dice), anyItems(dice, api.ItemMessages, api.ItemHighest)
	case api.CmdAppend:
		c.Box, c.Flags, c.Data = anyBox(dice), anyFlags(dice), anyText(dice)
	case api.CmdSearch:
		c.Keys = anyKeys(dice)
	case api.CmdFetch:
		c.Set, c.Items, c.HasSince = anySet(dice), anyItems(dice, api.ItemFlags, api.ItemText), dice.Intn(2) == 0
	case api.CmdStore:
		c.Set, c.How, c.Silent, c.HasSince, c.Flags = anySet(dice), dice.Intn(3), dice.Intn(2) == 0, dice.Intn(2) == 0, anyFlags(dice)
	case api.CmdCopy:
		c.Set, c.Box = anySet(dice), anyBox(dice)
	}
	if c.HasSince {
		c.Since = anySince(dice)
	}
	c.Uid = c.Kind >= api.CmdSearch && dice.Intn(2) == 0
	return c
}

// shapesAnd is commands of all shapes, and so many of the dice.
func shapesAnd(n int, dice *rand.Rand) []api.Command {
	var l []api.Command
	for _, x := range eachShape() {
		l = append(l, x.c)
	}
	for range n {
		l = append(l, anyCommand(dice))
	}
	return l
}

// spoil turns something of a command, which mostly may not be any more.
func spoil(dice *rand.Rand, c *api.Command) {
	switch dice.Intn(6) {
	case 0:
		c.Kind = dice.Intn(20)
	case 1:
		if len(c.Items) > 0 {
			x := &c.Items[dice.Intn(len(c.Items))]
			*x = api.Item{Kind: dice.Intn(14), Peek: dice.Intn(3) == 0, Part: dice.Intn(3) == 0, From: oneOf[uint64](dice, 0, 0, 5, 1<<32), Count: oneOf[uint64](dice, 0, 0, 5, 1<<32)}
		}
	case 2:
		if len(c.Keys) > 0 {
			k := &c.Keys[dice.Intn(len(c.Keys))]
			*k = api.Key{Kind: dice.Intn(15), Kids: oneOf(dice, 0, 0, 1, 2, -1), N: oneOf[uint64](dice, 0, 0, 1, 2, 1<<63), Field: oneOf(dice, "", "", "a", `\Seen`, "A"), Text: oneOf(dice, "", "", "x")}
		}
	case 3:
		if len(c.Keys) > 1 {
			c.Keys = c.Keys[:len(c.Keys)-1]
		}
	case 4:
		c.Flags = oneOf(dice, []string{"b", "a"}, []string{`\seen`}, []string{"a", "a"}, []string{"x"})
	default:
		all := []string{"Uid", "Cond", "Box", "User", "Pass", "Pattern", "Set", "Items", "Keys", "How", "Silent", "HasSince", "Since", "Flags", "Data"}
		fields()[oneOf(dice, all...)](c)
	}
}

// TestPrintOfDice: P8.2 and P8.3, of commands that may be and of others, by another road.
func TestPrintOfDice(t *testing.T) {
	dice := rand.New(rand.NewSource(82))
	var may int
	for range 60000 {
		c := anyCommand(dice)
		for dice.Intn(3) == 0 {
			spoil(dice, &c)
		}
		if text, ok := said(c); ok {
			prints(t, c, text)
			may++
		} else {
			mayNotBe(t, c)
		}
		if t.Failed() {
			return
		}
	}
	if may < 20000 || may > 50000 {
		t.Errorf("%d of them may be", may)
	}
}

// TestParseOfDice: P8.1 and P8.4, of texts that mean a command in other ways.
func TestParseOfDice(t *testing.T) {
	dice := rand.New(rand.NewSource(84))
	for range 30000 {
		c := anyCommand(dice)
		text, ok := said(c)
		if !ok {
			continue
		}
		loose = dice
		otherwise, _ := said(c)
		loose = nil
		parses(t, otherwise, c)
		prints(t, must(t, otherwise), text)
		if t.Failed() {
			return
		}
	}
}

// otherLetters is a text with some letters in their other form.
func otherLetters(dice *rand.Rand, s string) string {
	b := []byte(s)
	for i, c := range b {
		if small := c | 32; small >= 'a' && small <= 'z' && dice.Intn(2) == 0 {
			b[i] = c ^ 32
		}
	}
	return string(b)
}

// unlettered is a text without letters.
func unlettered(s string) string {
	return strings.Map(func(r rune) rune {
		if r >= 'a' && r <= 'z' || r >= 'A' && r <= 'Z' {
			return '0'
		}
		return r
	}, s)
}

// TestLetters: P8.5. Where no text has letters, all that there are are of words, of flags, of fields' names.
func TestLetters(t *testing.T) {
	dice := rand.New(rand.NewSource(85))
	for _, c := range shapesAnd(20000, dice) {
		c.Tag, c.User, c.Pass, c.Data, c.Pattern = unlettered(c.Tag), unlettered(c.User), unlettered(c.Pass), unlettered(c.Data), unlettered(c.Pattern)
		if c.Box != "INBOX" {
			c.Box = unlettered(c.Box)
		}
		keys := c.Keys
		c.Keys = nil
		for _, k := range keys {
			k.Text = unlettered(k.Text)
			c.Keys = append(c.Keys, k)
		}
		if text, ok := said(c); ok {
			parses(t, strings.ToLower(text), c)
			parses(t, strings.ToUpper(text), c)
			parses(t, otherLetters(dice, text), c)
			loose = dice
			text, _ = said(c)
			loose = nil
			parses(t, otherLetters(dice, text), c)
		}
		if t.Failed() {
			return
		}
	}
}

// TestTextsKeepLetters: P8.5, of words alone: what a text says keeps its letters.
func TestTextsKeepLetters(t *testing.T) {
	parses(t, "Tag login User PASS", api.Command{Tag: "Tag", Kind: api.CmdLogin, User: "User", Pass: "PASS"})
	parses(t, "tAG Create WorK", api.Command{Tag: "tAG", Kind: api.CmdCreate, Box: "WorK"})
	parses(t, `a list "" InBox/%`, api.Command{Tag: "a", Kind: api.CmdList, Pattern: "InBox/%"})
	parses(t, "a append x {3}"+crlf+"AbC", api.Command{Tag: "a", Kind: api.CmdAppend, Box: "x", Data: "AbC"})
	parses(t, "a search text AbC", search(1, api.Key{Kind: api.KeyText, Text: "AbC"}))
	parses(t, "a search header AbC AbC", search(1, api.Key{Kind: api.KeyHeader, Field: "abc", Text: "AbC"}))
}

// isStill says whether a text is a command.
func isStill(s string, c api.Command) bool {
	got, e := grammar.Parse(s)
	return e == api.OK && alike(got, c)
}

// TestCutOff: P8.6, cut off anywhere.
func TestCutOff(t *testing.T) {
	for _, c := range shapesAnd(3000, rand.New(rand.NewSource(86))) {
		text, ok := said(c)
		if !ok || len(text) > 500 {
			continue
		}
		for n := range len(text) {
			if isStill(text[:n], c) {
				t.Fatalf("%q, cut to %q, is the same", text, text[:n])
			}
		}
	}
}

// TestSomethingBehind: P8.6, each byte but a colon, and more; what begins with a colon may be of a set.
func TestSomethingBehind(t *testing.T) {
	for _, c := range shapesAnd(1500, rand.New(rand.NewSource(87))) {
		text, ok := said(c)
		if !ok {
			continue
		}
		for b := range 256 {
			s := string([]byte{byte(b)})
			if s != ":" && isStill(text+s, c) {
				t.Fatalf("%q with %q behind is the same", short(text), s)
			}
		}
		for _, s := range []string{crlf, "  ", " x", " ALL", " (CONDSTORE)", " (CHANGEDSINCE 1)", " ()", ")", "()", "<0.1>", ",1", ".SILENT", `""`, ` ""`, "{0}" + crlf, " {0}" + crlf, text, " " + text, crlf + text} {
			if isStill(text+s, c) {
				t.Fatalf("%q with %q behind is the same", short(text), s)
			}
		}
	}
	if c := must(t, "a SEARCH 4"); !isStill("a SEARCH 4:4", c) {
		t.Error("a range of one number")
	}
}

// spoilText turns some bytes of a text.
func spoilText(dice *rand.Rand, s string) string {
	for range 1 + dice.Intn(3) {
		at := dice.Intn(len(s) + 1)
		upTo := min(len(s), at+dice.Intn(4))
		s = s[:at] + oneOf(dice, "", "", " ", "(", ")", `"`, `\`, "{", "}", "{1}"+crlf, crlf, "<", ">", "0", "1", ":", ",", "*", "%", "+", "[", "]", "x", "N", "NOT ", "OR ", "UID ", "\x00", "\xff") + s[upTo:]
	}
	return s
}

// TestSpoiledTexts: P8.1 and P8.4, of texts of which some bytes were turned: a command, whose text means it, or an error beside the tag.
func TestSpoiledTexts(t *testing.T) {
	dice := rand.New(rand.NewSource(88))
	count := map[api.Errno]int{}
	for _, c := range shapesAnd(20000, dice) {
		text, _ := said(c)
		s := spoilText(dice, text)
		got, e := grammar.Parse(s)
		count[e]++
		switch again, ok := said(got); e {
		case api.OK:
			if !ok {
				t.Fatalf("Parse(%q) = %+v, which may not be", short(s), got)
			}
			prints(t, got, again)
		case api.ErrTag, api.ErrWord, api.ErrForm:
			refuses(t, s, e)
		default:
			t.Fatalf("Parse(%q): %d", short(s), e)
		}
	}
	for _, e := range []api.Errno{api.OK, api.ErrTag, api.ErrWord, api.ErrForm} {
		if count[e] < 100 {
			t.Errorf("%d of %d", count[e], e)
		}
	}
}
