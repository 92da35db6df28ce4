package grammar_test

import (
	"reflect"
	"strings"
	"testing"

	"posthorn/api"
	"posthorn/grammar"
)

const crlf = "\r\n"

// ranges makes a set of pairs.
func ranges(l ...uint64) []api.Range {
	var s []api.Range
	for i := 0; i < len(l); i += 2 {
		s = append(s, api.Range{From: l[i], To: l[i+1]})
	}
	return s
}

// items makes items of kinds.
func items(kinds ...int) []api.Item {
	var l []api.Item
	for _, k := range kinds {
		l = append(l, api.Item{Kind: k})
	}
	return l
}

// search is a SEARCH of so many keys, whose nodes are these.
func search(kids int, nodes ...api.Key) api.Command {
	return api.Command{Tag: "a", Kind: api.CmdSearch, Keys: append([]api.Key{{Kind: api.KeyAnd, Kids: kids}}, nodes...)}
}

// plain is a command with lists that are nil where they are empty.
func plain(c api.Command) api.Command {
	if len(c.Set) == 0 {
		c.Set = nil
	}
	if len(c.Items) == 0 {
		c.Items = nil
	}
	if len(c.Keys) == 0 {
		c.Keys = nil
	}
	if len(c.Flags) == 0 {
		c.Flags = nil
	}
	keys := c.Keys
	c.Keys = nil
	for _, k := range keys {
		if len(k.Set) == 0 {
			k.Set = nil
		}
		c.Keys = append(c.Keys, k)
	}
	return c
}

// alike says whether two commands are.
func alike(a, b api.Command) bool { return reflect.DeepEqual(plain(a), plain(b)) }

// short is a text, or its beginning.
func short(s string) string {
	if len(s) > 200 {
		return s[:200] + ".."
	}
	return s
}

// parses checks that s is a command, and that its text is parsed as it, too.
func parses(t *testing.T, s string, want api.Command) {
	t.Helper()
	got, e := grammar.Parse(s)
	if e != api.OK || !alike(got, want) {
		t.Errorf("Parse(%q) = %+v, %d; must be %+v", short(s), got, e, want)
		return
	}
	text, e := grammar.Print(got)
	if e != api.OK {
		t.Errorf("Print of Parse(%q): %d", short(s), e)
	} else if again, e := grammar.Parse(text); e != api.OK || !alike(again, got) {
		t.Errorf("Parse(%q), printed %q, is parsed as %+v, %d", short(s), short(text), again, e)
	}
}

// refuses checks that s is no command, and what is told beside that.
func refuses(t *testing.T, s string, want api.Errno) {
	t.Helper()
	var c api.Command
	if want != api.ErrTag {
		c.Tag, _, _ = strings.Cut(s, " ")
	}
	if got, e := grammar.Parse(s); e != want || !reflect.DeepEqual(got, c) {
		t.Errorf("Parse(%q) = %+v, %d; must be %d", short(s), got, e, want)
	}
}

// prints checks that a command has a text, and that this is parsed as it.
func prints(t *testing.T, c api.Command, want string) {
	t.Helper()
	if got, e := grammar.Print(c); got != want || e != api.OK {
		t.Errorf("Print(%+v) = %q, %d; must be %q", c, short(got), e, short(want))
	}
	if got, e := grammar.Parse(want); e != api.OK || !alike(got, c) {
		t.Errorf("Parse(%q) = %+v, %d; must be %+v", short(want), got, e, c)
	}
}

// mayNotBe checks that a command has no text.
func mayNotBe(t *testing.T, c api.Command) {
	t.Helper()
	if got, e := grammar.Print(c); got != "" || e != api.ErrArg {
		t.Errorf("Print(%+v) = %q, %d", c, short(got), e)
	}
}

// one is a command of each shape, with its one text.
type one struct {
	text string
	c    api.Command
}

// eachShape is commands of all shapes that the chapter has, with their texts.
func eachShape() []one {
	return append(shapesOfBoxes(), append(shapesOfSets(), shapesOfKeys()...)...)
}

func shapesOfBoxes() []one {
	return []one{
		{"a CAPABILITY", api.Command{Tag: "a", Kind: api.CmdCapability}},
		{"a NOOP", api.Command{Tag: "a", Kind: api.CmdNoop}},
		{"a LOGOUT", api.Command{Tag: "a", Kind: api.CmdLogout}},
		{"a CLOSE", api.Command{Tag: "a", Kind: api.CmdClose}},
		{"a EXPUNGE", api.Command{Tag: "a", Kind: api.CmdExpunge}},
		{"a ENABLE CONDSTORE", api.Command{Tag: "a", Kind: api.CmdEnable}},
		{"A.1 LOGIN x horn", api.Command{Tag: "A.1", Kind: api.CmdLogin, User: "x", Pass: "horn"}},
		{`UID LOGIN "" "nil"`, api.Command{Tag: "UID", Kind: api.CmdLogin, Pass: "nil"}},
		{"a LOGIN {2}" + crlf + "\xff) {2}" + crlf + crlf, api.Command{Tag: "a", Kind: api.CmdLogin, User: "\xff)", Pass: crlf}},
		{`a LOGIN "a b" "\"\\"`, api.Command{Tag: "a", Kind: api.CmdLogin, User: "a b", Pass: `"\`}},
		{"a SELECT INBOX", api.Command{Tag: "a", Kind: api.CmdSelect, Box: "INBOX"}},
		{"a SELECT INBOX (CONDSTORE)", api.Command{Tag: "a", Kind: api.CmdSelect, Box: "INBOX", Cond: true}},
		{`a EXAMINE "a b"`, api.Command{Tag: "a", Kind: api.CmdExamine, Box: "a b"}},
		{"a EXAMINE Work (CONDSTORE)", api.Command{Tag: "a", Kind: api.CmdExamine, Box: "Work", Cond: true}},
		{`a CREATE "NIL"`, api.Command{Tag: "a", Kind: api.CmdCreate, Box: "NIL"}},
		{`a DELETE "(x)"`, api.Command{Tag: "a", Kind: api.CmdDelete, Box: "(x)"}},
		{`a LIST "" *`, api.Command{Tag: "a", Kind: api.CmdList, Pattern: "*"}},
		{`a LIST "" a/%`, api.Command{Tag: "a", Kind: api.CmdList, Pattern: "a/%"}},
		{`a LIST "" ""`, api.Command{Tag: "a", Kind: api.CmdList}},
		{`a LIST "" "nIl"`, api.Command{Tag: "a", Kind: api.CmdList, Pattern: "nIl"}},
		{`a LIST "" NIL*`, api.Command{Tag: "a", Kind: api.CmdList, Pattern: "NIL*"}},
		{`a LIST "" "* %"`, api.Command{Tag: "a", Kind: api.CmdList, Pattern: "* %"}},
		{`a LIST "" {1}` + crlf + "\x00", api.Command{Tag: "a", Kind: api.CmdList, Pattern: "\x00"}},
		{"a STATUS INBOX (MESSAGES)", api.Command{Tag: "a", Kind: api.CmdStatus, Box: "INBOX", Items: items(api.ItemMessages)}},
		{"a STATUS x (HIGHESTMODSEQ UNSEEN UIDVALIDITY UIDNEXT MESSAGES)", api.Command{Tag: "a", Kind: api.CmdStatus, Box: "x", Items: items(5, 4, 3, 2, 1)}},
		{"a STATUS x (UNSEEN UNSEEN)", api.Command{Tag: "a", Kind: api.CmdStatus, Box: "x", Items: items(4, 4)}},
		{"a APPEND INBOX {0}" + crlf, api.Command{Tag: "a", Kind: api.CmdAppend, Box: "INBOX"}},
		{"a APPEND INBOX {2}" + crlf + "hi", api.Command{Tag: "a", Kind: api.CmdAppend, Box: "INBOX", Data: "hi"}},
		{`a APPEND "a b" (\Seen x) {5}` + crlf + "\x00" + crlf + "\xff)", api.Command{Tag: "a", Kind: api.CmdAppend, Box: "a b", Flags: []string{`\Seen`, "x"}, Data: "\x00" + crlf + "\xff)"}},
	}
}

func shapesOfSets() []one {
	body := api.Item{Kind: api.ItemBody}
	return []one{
		{"a FETCH 1 FLAGS", api.Command{Tag: "a", Kind: api.CmdFetch, Set: ranges(1, 1), Items: items(api.ItemFlags)}},
		{"a FETCH 1:* UID", api.Command{Tag: "a", Kind: api.CmdFetch, Set: ranges(1, 0), Items: items(api.ItemUid)}},
		{"a UID FETCH *:4,2 RFC822.SIZE", api.Command{Tag: "a", Uid: true, Kind: api.CmdFetch, Set: ranges(0, 4, 2, 2), Items: items(api.ItemSize)}},
		{"a FETCH 4294967295 (MODSEQ FLAGS UID RFC822.SIZE)", api.Command{Tag: "a", Kind: api.CmdFetch, Set: ranges(1<<32-1, 1<<32-1), Items: items(9, 6, 7, 8)}},
		{"a FETCH 1 BODY[]", api.Command{Tag: "a", Kind: api.CmdFetch, Set: ranges(1, 1), Items: []api.Item{body}}},
		{"a FETCH 1 BODY.PEEK[HEADER]", api.Command{Tag: "a", Kind: api.CmdFetch, Set: ranges(1, 1), Items: []api.Item{{Kind: api.ItemHeader, Peek: true}}}},
		{"a FETCH 1 (BODY[TEXT]<0.1> BODY.PEEK[]<4294967295.4294967295>)", api.Command{Tag: "a", Kind: api.CmdFetch, Set: ranges(1, 1), Items: []api.Item{
			{Kind: api.ItemText, Part: true, Count: 1}, {Kind: api.ItemBody, Peek: true, Part: true, From: 1<<32 - 1, Count: 1<<32 - 1}}}},
		{"a FETCH 1 (BODY[HEADER] BODY.PEEK[TEXT])", api.Command{Tag: "a", Kind: api.CmdFetch, Set: ranges(1, 1), Items: []api.Item{{Kind: api.ItemHeader}, {Kind: api.ItemText, Peek: true}}}},
		{"a UID FETCH 1 FLAGS (CHANGEDSINCE 0)", api.Command{Tag: "a", Uid: true, Kind: api.CmdFetch, Set: ranges(1, 1), Items: items(api.ItemFlags), HasSince: true}},
		{"a FETCH 1 (FLAGS UID) (CHANGEDSINCE 9223372036854775807)", api.Command{Tag: "a", Kind: api.CmdFetch, Set: ranges(1, 1), Items: items(6, 7), HasSince: true, Since: 1<<63 - 1}},
		{"a STORE 1 FLAGS ()", api.Command{Tag: "a", Kind: api.CmdStore, Set: ranges(1, 1)}},
		{`a STORE 1,3:4 +FLAGS (\Deleted)`, api.Command{Tag: "a", Kind: api.CmdStore, Set: ranges(1, 1, 3, 4), How: api.FlagsAdd, Flags: []string{`\Deleted`}}},
		{`a UID STORE 1 -FLAGS.SILENT (\Seen a)`, api.Command{Tag: "a", Uid: true, Kind: api.CmdStore, Set: ranges(1, 1), How: api.FlagsTake, Silent: true, Flags: []string{`\Seen`, "a"}}},
		{"a STORE 1 (UNCHANGEDSINCE 0) FLAGS.SILENT (b)", api.Command{Tag: "a", Kind: api.CmdStore, Set: ranges(1, 1), HasSince: true, Silent: true, Flags: []string{"b"}}},
		{"a STORE 1 (UNCHANGEDSINCE 9223372036854775807) +FLAGS (b)", api.Command{Tag: "a", Kind: api.CmdStore, Set: ranges(1, 1), HasSince: true, Since: 1<<63 - 1, How: api.FlagsAdd, Flags: []string{"b"}}},
		{"a COPY 2:4 x", api.Command{Tag: "a", Kind: api.CmdCopy, Set: ranges(2, 4), Box: "x"}},
		{`a UID COPY * "x y"`, api.Command{Tag: "a", Uid: true, Kind: api.CmdCopy, Set: ranges(0, 0), Box: "x y"}},
	}
}

func shapesOfKeys() []one {
	l := []one{
		{"a SEARCH ALL", search(1, api.Key{Kind: api.KeyAll})},
		{"a SEARCH (ALL)", search(1, api.Key{Kind: api.KeyAnd, Kids: 1}, api.Key{Kind: api.KeyAll})},
		{"a SEARCH ALL ALL ALL", search(3, api.Key{Kind: api.KeyAll}, api.Key{Kind: api.KeyAll}, api.Key{Kind: api.KeyAll})},
		{"a SEARCH 2,4:7,9:*", search(1, api.Key{Kind: api.KeySet, Set: ranges(2, 2, 4, 7, 9, 0)})},
		{"a SEARCH UID 2:3", search(1, api.Key{Kind: api.KeyUid, Set: ranges(2, 3)})},
		{"a SEARCH KEYWORD work", search(1, api.Key{Kind: api.KeyFlag, Field: "work", N: 1})},
		{"a SEARCH UNKEYWORD nil", search(1, api.Key{Kind: api.KeyFlag, Field: "nil"})},
		{"a SEARCH UNKEYWORD seen", search(1, api.Key{Kind: api.KeyFlag, Field: "seen"})},
		{"a SEARCH LARGER 0", search(1, api.Key{Kind: api.KeyLarger})},
		{"a SEARCH SMALLER 9223372036854775807", search(1, api.Key{Kind: api.KeySmaller, N: 1<<63 - 1})},
		{"a SEARCH MODSEQ 10", search(1, api.Key{Kind: api.KeyModseq, N: 10})},
		{`a SEARCH TEXT ""`, search(1, api.Key{Kind: api.KeyText})},
		{`a SEARCH TEXT "a )"`, search(1, api.Key{Kind: api.KeyText, Text: "a )"})},
		{"a SEARCH (BODY {2}" + crlf + "\xff) ALL)", search(1, api.Key{Kind: api.KeyAnd, Kids: 2}, api.Key{Kind: api.KeyBody, Text: "\xff)"}, api.Key{Kind: api.KeyAll})},
		{`a SEARCH HEADER x-a "nil"`, search(1, api.Key{Kind: api.KeyHeader, Field: "x-a", Text: "nil"})},
		{`a SEARCH HEADER "nil" "NIL"`, search(1, api.Key{Kind: api.KeyHeader, Field: "nil", Text: "NIL"})},
		{`a SEARCH HEADER "a\"\\(]" x`, search(1, api.Key{Kind: api.KeyHeader, Field: `a"\(]`, Text: "x"})},
		{"a SEARCH HEADER subject x", search(1, api.Key{Kind: api.KeyHeader, Field: "subject", Text: "x"})},
		{"a SEARCH NOT ALL", search(1, api.Key{Kind: api.KeyNot}, api.Key{Kind: api.KeyAll})},
		{"a SEARCH OR ALL 1", search(1, api.Key{Kind: api.KeyOr}, api.Key{Kind: api.KeyAll}, api.Key{Kind: api.KeySet, Set: ranges(1, 1)})},
		{"a SEARCH OR NOT (ALL 1) OR SEEN 2 DRAFT", search(2, api.Key{Kind: api.KeyOr}, api.Key{Kind: api.KeyNot}, api.Key{Kind: api.KeyAnd, Kids: 2}, api.Key{Kind: api.KeyAll}, api.Key{Kind: api.KeySet, Set: ranges(1, 1)},
			api.Key{Kind: api.KeyOr}, api.Key{Kind: api.KeyFlag, Field: `\Seen`, N: 1}, api.Key{Kind: api.KeySet, Set: ranges(2, 2)}, api.Key{Kind: api.KeyFlag, Field: `\Draft`, N: 1})},
	}
	for _, f := range []string{`\Answered`, `\Flagged`, `\Deleted`, `\Seen`, `\Draft`} {
		name := strings.ToUpper(f[1:])
		l = append(l, one{"a SEARCH " + name, search(1, api.Key{Kind: api.KeyFlag, Field: f, N: 1})}, one{"a SEARCH UN" + name, search(1, api.Key{Kind: api.KeyFlag, Field: f})})
	}
	for _, x := range l {
		x.text = strings.Replace(x.text, "a ", "b UID ", 1)
		x.c.Tag, x.c.Uid = "b", true
		l = append(l, x)
	}
	return l
}
