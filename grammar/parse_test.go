package grammar_test

import (
	"strconv"
	"strings"
	"testing"

	"posthorn/api"
	"posthorn/grammar"
)

// kind is what a command's word is.
type kind struct {
	kind  int
	uid   bool   // may stand with UID ahead
	right string // what may stand behind it
}

// kinds is the words of all commands.
func kinds() map[string]kind {
	return map[string]kind{
		"CAPABILITY": {1, false, ""}, "NOOP": {2, false, ""}, "LOGOUT": {3, false, ""}, "CLOSE": {4, false, ""}, "EXPUNGE": {5, false, ""},
		"ENABLE": {6, false, " CONDSTORE"}, "LOGIN": {7, false, " a b"}, "SELECT": {8, false, " x"}, "EXAMINE": {9, false, " x"}, "CREATE": {10, false, " x"}, "DELETE": {11, false, " x"},
		"LIST": {12, false, ` "" *`}, "STATUS": {13, false, " x (MESSAGES)"}, "APPEND": {14, false, " x {0}" + crlf},
		"SEARCH": {15, true, " ALL"}, "FETCH": {16, true, " 1 UID"}, "STORE": {17, true, " 1 FLAGS (a)"}, "COPY": {18, true, " 1 x"},
	}
}

// TestShapes: P8.1 and P8.2, commands of all shapes, and their texts.
func TestShapes(t *testing.T) {
	seen := map[int]bool{}
	for _, x := range eachShape() {
		parses(t, x.text, x.c)
		prints(t, x.c, x.text)
		seen[x.c.Kind] = true
	}
	if len(seen) != 18 {
		t.Errorf("%d kinds", len(seen))
	}
}

// TestExamples: the chapter's.
func TestExamples(t *testing.T) {
	parses(t, "a NOOP", api.Command{Tag: "a", Kind: api.CmdNoop})
	refuses(t, "NOOP", api.ErrTag)
	refuses(t, "a FOO", api.ErrWord)
	refuses(t, "a UID NOOP", api.ErrWord)
	refuses(t, "a NOOP ", api.ErrForm)
	c := api.Command{Tag: "x", Kind: api.CmdFetch, Uid: true, Set: ranges(1, 0), Items: []api.Item{{Kind: api.ItemFlags}, {Kind: api.ItemBody, Peek: true, Part: true, Count: 9}}}
	parses(t, "x uid fetch 1:* (flags body.peek[]<0.9>)", c)
	prints(t, c, "x UID FETCH 1:* (FLAGS BODY.PEEK[]<0.9>)")
	c = search(2, api.Key{Kind: api.KeyFlag, Field: `\Seen`}, api.Key{Kind: api.KeyOr}, api.Key{Kind: api.KeyHeader, Field: "from", Text: "a"}, api.Key{Kind: api.KeyNot}, api.Key{Kind: api.KeySet, Set: ranges(3, 3)})
	c.Tag = "s"
	parses(t, "s search unseen or from a not 3", c)
	prints(t, c, "s SEARCH UNSEEN OR HEADER from a NOT 3")
}

// TestOtherTexts: P8.1, texts that aren't the one that is printed.
func TestOtherTexts(t *testing.T) {
	literal := func(s string) string { return "{" + strconv.Itoa(len(s)) + "}" + crlf + s }
	for _, x := range []one{
		{`a LOGIN "x" ` + literal("y"), api.Command{Tag: "a", Kind: api.CmdLogin, User: "x", Pass: "y"}},
		{"a LOGIN " + literal("") + ` NIL`, api.Command{Tag: "a", Kind: api.CmdLogin, Pass: "NIL"}},
		{"a SELECT inBox", api.Command{Tag: "a", Kind: api.CmdSelect, Box: "INBOX"}},
		{`a SELECT "inbox" (condstore)`, api.Command{Tag: "a", Kind: api.CmdSelect, Box: "INBOX", Cond: true}},
		{"a CREATE " + literal("Inbox"), api.Command{Tag: "a", Kind: api.CmdCreate, Box: "INBOX"}},
		{"a CREATE " + literal("a )"), api.Command{Tag: "a", Kind: api.CmdCreate, Box: "a )"}},
		{"a CREATE NIL", api.Command{Tag: "a", Kind: api.CmdCreate, Box: "NIL"}},
		{`a LIST "" inbox`, api.Command{Tag: "a", Kind: api.CmdList, Pattern: "inbox"}},
		{`a LIST "" "*"`, api.Command{Tag: "a", Kind: api.CmdList, Pattern: "*"}},
		{`a LIST "" nil`, api.Command{Tag: "a", Kind: api.CmdList, Pattern: "nil"}},
		{`a LIST "" ` + literal("a b%"), api.Command{Tag: "a", Kind: api.CmdList, Pattern: "a b%"}},
		{`a LIST "" ` + literal("a%"), api.Command{Tag: "a", Kind: api.CmdList, Pattern: "a%"}},
		{"a APPEND x () " + literal("y"), api.Command{Tag: "a", Kind: api.CmdAppend, Box: "x", Data: "y"}},
		{`a APPEND ` + literal("x") + ` (b \SEEN A b) ` + literal("y"), api.Command{Tag: "a", Kind: api.CmdAppend, Box: "x", Flags: []string{`\Seen`, "a", "b"}, Data: "y"}},
		{"a FETCH 3:3 (FLAGS)", api.Command{Tag: "a", Kind: api.CmdFetch, Set: ranges(3, 3), Items: items(api.ItemFlags)}},
		{"a FETCH *:* BODY[]<1.2> (CHANGEDSINCE 1)", api.Command{Tag: "a", Kind: api.CmdFetch, Set: ranges(0, 0), Items: []api.Item{{Kind: api.ItemBody, Part: true, From: 1, Count: 2}}, HasSince: true, Since: 1}},
		{`a STORE 5:2 -flags (\draft \ANSWERED)`, api.Command{Tag: "a", Kind: api.CmdStore, Set: ranges(5, 2), How: api.FlagsTake, Flags: []string{`\Answered`, `\Draft`}}},
		{`a SEARCH SUBJECT ` + literal("x"), search(1, api.Key{Kind: api.KeyHeader, Field: "subject", Text: "x"})},
		{`a SEARCH FROM "x"`, search(1, api.Key{Kind: api.KeyHeader, Field: "from", Text: "x"})},
		{`a SEARCH TO x`, search(1, api.Key{Kind: api.KeyHeader, Field: "to", Text: "x"})},
		{`a SEARCH HEADER "X-Y@[Z" ` + literal("x"), search(1, api.Key{Kind: api.KeyHeader, Field: "x-y@[z", Text: "x"})},
		{`a SEARCH HEADER ` + literal("AZaz!~") + ` X`, search(1, api.Key{Kind: api.KeyHeader, Field: "azaz!~", Text: "X"})},
		{`a SEARCH KEYWORD WorK`, search(1, api.Key{Kind: api.KeyFlag, Field: "work", N: 1})},
		{`a SEARCH ((1))`, search(1, api.Key{Kind: api.KeyAnd, Kids: 1}, api.Key{Kind: api.KeyAnd, Kids: 1}, api.Key{Kind: api.KeySet, Set: ranges(1, 1)})},
		{`a SEARCH (TEXT ` + literal(") ") + `)`, search(1, api.Key{Kind: api.KeyAnd, Kids: 1}, api.Key{Kind: api.KeyText, Text: ") "})},
		{`a SEARCH (TEXT a)`, search(1, api.Key{Kind: api.KeyAnd, Kids: 1}, api.Key{Kind: api.KeyText, Text: "a"})},
		{`a SEARCH (HEADER a b)`, search(1, api.Key{Kind: api.KeyAnd, Kids: 1}, api.Key{Kind: api.KeyHeader, Field: "a", Text: "b"})},
		{`a SEARCH (UID 1:2)`, search(1, api.Key{Kind: api.KeyAnd, Kids: 1}, api.Key{Kind: api.KeyUid, Set: ranges(1, 2)})},
		{`a SEARCH (MODSEQ 1)`, search(1, api.Key{Kind: api.KeyAnd, Kids: 1}, api.Key{Kind: api.KeyModseq, N: 1})},
		{`a SEARCH (KEYWORD a)`, search(1, api.Key{Kind: api.KeyAnd, Kids: 1}, api.Key{Kind: api.KeyFlag, Field: "a", N: 1})},
	} {
		parses(t, x.text, x.c)
	}
}

// TestTags: P8.1, ErrTag ahead of all.
func TestTags(t *testing.T) {
	for _, tag := range []string{"a", "A1", "0", "UID", "NOOP", "nil", "INBOX", "a.b", "[", "}", "~", "!", "&", strings.Repeat("x", 31), strings.Repeat("x", 32)} {
		parses(t, tag+" NOOP", api.Command{Tag: tag, Kind: api.CmdNoop})
		refuses(t, tag+" FOO", api.ErrWord)
		refuses(t, tag+" ", api.ErrWord)
		refuses(t, tag+" NOOP x", api.ErrForm)
		refuses(t, tag, api.ErrTag)
	}
	for _, s := range []string{"", " ", "  ", " a NOOP", "\ta NOOP", "+ NOOP", "+", "a+ NOOP", "+a NOOP", "a+b NOOP", "* NOOP", `"a" NOOP`, `\a NOOP`, "a\tNOOP", "a\r\n NOOP", "a\x00 NOOP", "é NOOP", "a\xff NOOP", "\x7f NOOP", "(a) NOOP", "a) NOOP", "a( NOOP", "a{ NOOP", "{1}" + crlf + "a NOOP", "a% NOOP", "a] NOOP",
		strings.Repeat("x", 33) + " NOOP", strings.Repeat("x", 1<<20), strings.Repeat("x", 1<<20) + " NOOP", strings.Repeat("x", 32) + "y NOOP", "NOOP", "a", "a)b NOOP", "+ FOO", "* FOO", ") NOOP"} {
		refuses(t, s, api.ErrTag)
	}
}

// TestTagOfEachByte: P8.1, alone and among others.
func TestTagOfEachByte(t *testing.T) {
	for b := range 256 {
		s := string([]byte{byte(b)})
		may := b > 0x20 && b < 0x7f && !strings.Contains(`(){%*"\]+`, s)
		for _, tag := range []string{s, "a" + s, s + "a", "a" + s + "b"} {
			if may {
				parses(t, tag+" NOOP", api.Command{Tag: tag, Kind: api.CmdNoop})
				continue
			}
			want := api.ErrTag
			if s == " " && tag[0] == 'a' {
				want = api.ErrWord // the blank ends the tag
			}
			refuses(t, tag+" NOOP", want)
			mayNotBe(t, api.Command{Tag: tag, Kind: api.CmdNoop})
		}
	}
}

// TestWords: P8.1, of each command's word, with UID ahead and without.
func TestWords(t *testing.T) {
	for name, x := range kinds() {
		for _, w := range []string{name, strings.ToLower(name), name[:1] + strings.ToLower(name[1:])} {
			if c, e := grammar.Parse("a " + w + x.right); e != api.OK || c.Kind != x.kind || c.Uid || c.Tag != "a" {
				t.Errorf("%s: %+v, %d", w, c, e)
			}
			for _, uid := range []string{"UID ", "uid ", "uId "} {
				c, e := grammar.Parse("a " + uid + w + x.right)
				if x.uid && (e != api.OK || c.Kind != x.kind || !c.Uid) {
					t.Errorf("%s%s: %+v, %d", uid, w, c, e)
				}
				if !x.uid {
					refuses(t, "a "+uid+w+x.right, api.ErrWord)
					refuses(t, "a "+uid+w, api.ErrWord)
					refuses(t, "a "+uid+w+" wrong", api.ErrWord)
				}
				refuses(t, "a "+uid+uid+w+x.right, api.ErrWord)
				refuses(t, "a "+uid+" "+w+x.right, api.ErrWord)
			}
			refuses(t, "a "+w+x.right+" ", api.ErrForm)
			refuses(t, "a "+w+" ", api.ErrForm)
			refuses(t, "a "+w+"  "+x.right, api.ErrForm)
			if x.right != "" {
				refuses(t, "a "+w, api.ErrForm)
				refuses(t, "a "+w+" "+x.right, api.ErrForm)
			}
		}
	}
}

// TestWordFaults: P8.1, words that are none, ahead of all that is wrong behind them.
func TestWordFaults(t *testing.T) {
	for name, x := range kinds() {
		for _, w := range []string{name[1:], name[:len(name)-1], name + "X", "X" + name, name + ")", name + "(", "(" + name + ")", name + "\r\n", name + "\t", "\t" + name, name + "\x00", `"` + name + `"`, "UN" + name, name + name, name + "UID", "UID" + name, "UID" + name[1:], "UID\t" + name, "UID-" + name} {
			refuses(t, "a "+w+x.right, api.ErrWord)
			refuses(t, "a "+w, api.ErrWord)
			refuses(t, "a UID "+w, api.ErrWord)
			refuses(t, "a UID "+w+x.right, api.ErrWord)
		}
		refuses(t, "a  "+name+x.right, api.ErrWord)
		for i := range name {
			for b := range 256 {
				s := name[:i] + string([]byte{byte(b)}) + name[i+1:]
				if s == name || s == name[:i]+strings.ToLower(name[i:i+1])+name[i+1:] {
					continue
				}
				refuses(t, "a "+s+x.right, api.ErrWord)
			}
		}
	}
	for _, s := range []string{"", " ", "FOO", "UID", "uid", "UID ", "UID  ", "UID UID", "UID UID ", "UIDFETCH 1 UID", "UID FOO", "AND", "ALL", "CONDSTORE", "FLAGS", "STARTTLS", "AUTHENTICATE x", "SUBSCRIBE x", "CHECK", "IDLE", "MOVE 1 x", "UID EXPUNGE 1", "UID CLOSE", "UID APPEND x {0}" + crlf, "UID LIST \"\" *", "\u0131d FETCH 1 UID", "U\u0130D FETCH 1 UID", "\u017fearch ALL", strings.Repeat("NOOP", 1<<18)} {
		refuses(t, "a "+s, api.ErrWord)
	}
}

// wrongs is what may not stand behind words.
func wrongs() map[string][]string {
	noBoxes := []string{"", " ", "  x", " \tx", " x ", " x y", " x)", " (x)", " a%", " *", ` "a%"`, ` "*"`, " \"a\x7f\"", ` ""`, ` " a"`, ` "a "`, ` "a`, ` a"`, ` "a"b`, ` "a\b"`, ` "a\"b"`, ` "a\\b"`, " {1}" + crlf, " {2}" + crlf + "x", " {1}" + crlf + "xy", " {01}" + crlf + "x", " {}" + crlf, " {1} x", " {1}\nx", " {1}x", " {0}" + crlf,
		" {3}" + crlf + "a\x00b", " {2}" + crlf + "é", " {1}" + crlf + "%", " {-1}" + crlf + "x", " {+1}" + crlf + "x", " {1+}" + crlf + "x", " " + strings.Repeat("x", 65), ` "` + strings.Repeat("x", 65) + `"`, " {65}" + crlf + strings.Repeat("x", 65), " a]", " é", " \xff", " a\x00"}
	opened := append([]string{" x (CONDSTORE", " x CONDSTORE", " x ()", " x(CONDSTORE)", " x  (CONDSTORE)", " x ( CONDSTORE)", " x (CONDSTORE )", " x (CONDSTORE) ", " x (CONDSTORE)(CONDSTORE)", " x (CONDSTORE) (CONDSTORE)", " x (CONDSTOR)", " x (CONDSTORES)", " x (CONDSTORE CONDSTORE)", " (CONDSTORE)", " x [CONDSTORE]", " x (CHANGEDSINCE 1)"}, noBoxes...)
	none := []string{" ", " x", "  ", " ()", " UID"}
	return map[string][]string{
		"CAPABILITY": none, "NOOP": none, "LOGOUT": none, "CLOSE": none, "EXPUNGE": none,
		"ENABLE": {"", " ", " CONDSTOR", " CONDSTORES", "  CONDSTORE", " CONDSTORE ", " CONDSTORE CONDSTORE", " (CONDSTORE)", ` "CONDSTORE"`, " QRESYNC", " QRESYNC CONDSTORE", " CONDSTORE QRESYNC"},
		"LOGIN":  {"", " ", " a", " a ", "  a b", " a  b", " a b ", " a b c", ` a "`, ` a "b`, ` a b"`, ` "a"b`, ` "a""b"`, ` "a" b"c"`, ` a b\`, ` a \b`, " a (b)", " a b)", " a) b", " (a) b", " a {b", " a {1}" + crlf, " a {2}" + crlf + "b", " a {1}" + crlf + "bc", " a {1}" + crlf + "b ", " {1}" + crlf + "ab", " {1}" + crlf + "a {1}b", " a %", " a *", " * a", " a é", " a \x00", " a \"\x00\"", " a \"é\"", " a \"b\nc\"", " a \"b\rc\"", " a b" + crlf, ` a "\b"`, " a {4097}" + crlf + strings.Repeat("x", 4097), " a {00}" + crlf, " a {9223372036854775808}" + crlf, " a {18446744073709551617}" + crlf + "b", " a {1}\r", " a {1}\r\r\nb", " a {1", " a {1}", " a {", " a {}", " a {a}" + crlf},
		"SELECT": opened, "EXAMINE": opened,
		"CREATE": append([]string{" x (CONDSTORE)"}, noBoxes...), "DELETE": append([]string{" x (CONDSTORE)"}, noBoxes...),
		"LIST":   {"", " ", ` ""`, ` "" `, ` "" "`, ` "" "a`, ` "" a"`, ` "" a b`, ` "" a `, ` ""  a`, `  "" a`, ` ""a`, ` x *`, ` "x" *`, ` "" "" *`, ` NIL *`, ` {0}` + crlf + " *", ` * ""`, ` *`, ` "" a\`, ` "" (a)`, ` "" a)`, ` "" a]`, ` "" {`, ` "" a{`, ` "" {1}` + crlf, ` "" {1}` + crlf + "ab", ` "" *{1}` + crlf + "a", ` "" "*"%`, ` "" *"a"`, ` "" é`, ` "" *` + "\x00", ` "" *` + "\x7f", ` "" *` + crlf, ` "" % %`, ` "" "é"`, ` "" (*)`, ` "" * RETURN ()`, ` "\"" *`},
		"STATUS": {"", " ", " x", " x ", " x ()", " x MESSAGES", " x (MESSAGES", " x MESSAGES)", " x  (MESSAGES)", " x(MESSAGES)", " x (MESSAGES) ", " x (MESSAGES)x", " x ( MESSAGES)", " x (MESSAGES )", " x (MESSAGES  UNSEEN)", " x (MESSAGES,UNSEEN)", " x (MESSAGESUNSEEN)", " x (MESSAGE)", " x (MESSAGESS)", " x (RECENT)", " x (FLAGS)", " x (UID)", " x (UIDNEX)", " x (MODSEQ)", " x (UNSEEN (MESSAGES))", " x ((MESSAGES))", " (MESSAGES)", " a% (MESSAGES)", ` " a" (MESSAGES)`, " x (MESSAGES) (UNSEEN)", " x [MESSAGES]", " x y (MESSAGES)", " x (BODY[])", " x ([])", " x (UIDVALIDITY UIDNEXT", " x (HIGHESTMODSEQ\x00)", ` "" (MESSAGES)`},
		"APPEND": {"", " ", " x", " x ", " x y", ` x "y"`, " x {1}" + crlf, " x {2}" + crlf + "y", " x {1}" + crlf + "yz", " x {1}" + crlf + "y ", " x {1}" + crlf + "y" + crlf, " x  {1}" + crlf + "y", " x{1}" + crlf + "y", " x {01}" + crlf + "y", " x {}" + crlf, " x {1}y", " x {1}", " x {4097}" + crlf + strings.Repeat("y", 4097), " {1}" + crlf + "y", " {1}" + crlf + "x{1}" + crlf + "y",
			" x (a) ", " x (a)", " x (a){1}" + crlf + "y", " x (a)  {1}" + crlf + "y", " x ( a) {1}" + crlf + "y", " x (a ) {1}" + crlf + "y", " x (a  b) {1}" + crlf + "y", ` x (\Recent) {1}` + crlf + "y", ` x \Seen {1}` + crlf + "y", " x a {1}" + crlf + "y", " x (a {1}" + crlf + "y", " x (a)) {1}" + crlf + "y", " x (a) (b) {1}" + crlf + "y", " x ((a)) {1}" + crlf + "y", ` x (a) "1-Jan-2026 00:00:00 +0000" {1}` + crlf + "y", ` x ("a") {1}` + crlf + "y",
			" a% {1}" + crlf + "y", ` "" {1}` + crlf + "y", " (x) {1}" + crlf + "y", " x {1}" + crlf + "y {1}" + crlf + "z", " x (" + strings.Repeat("a", 33) + ") {0}" + crlf, " x (a b c d e f g h i j k l m n o p q) {0}" + crlf, " x {-1}" + crlf, " x {99999999999999999999}" + crlf, " x (1)" + crlf, ` x "{1}` + crlf + `y"`, " x ~{1}" + crlf + "y", " x {1+}" + crlf + "y"},
		"FETCH":  wrongFetches(),
		"STORE":  wrongStores(),
		"COPY":   {"", " ", " 1", " 1 ", " x", " 1 2 3", "  1 x", " 1  x", " 1 x ", " 1x", " 0 x", " 01 x", " a x", " 1, x", " ,1 x", " 1:2:3 x", " 1: x", " :1 x", " 1,,2 x", " 1 a%", ` 1 ""`, ` 1 " a"`, " (1) x", ` "1" x`, " {1}" + crlf + "1 x", " 4294967296 x", " -1 x", " 1 x (CONDSTORE)", " 1) x", " ** x", " 1.2 x", " 1 {2}" + crlf + "x", " 1\tx", " ALL x", " UID 1 x", " 1\x00 x"},
		"SEARCH": wrongSearches(),
	}
}

func wrongFetches() []string {
	l := []string{"", " ", " 1", " 1 ", " FLAGS", " 1  FLAGS", "  1 FLAGS", " 1FLAGS", " 0 FLAGS", " 01 FLAGS", " a FLAGS", " 4294967296 FLAGS", " 1, FLAGS", " 1: FLAGS", " (1) FLAGS", ` "1" FLAGS`, " 1,0 FLAGS", " -1 FLAGS", " ** FLAGS", " 1\tFLAGS", " 1) FLAGS"}
	for _, items := range []string{"()", "( )", "(FLAGS", "FLAGS)", "FLAGS ", "FLAGS UID", "( FLAGS)", "(FLAGS )", "(FLAGS  UID)", "(FLAGS,UID)", "(FLAGSUID)", "(FLAGS) ", "(FLAGS)(UID)", "(FLAGS) (UID)", "(FLAGS)x", "((FLAGS))", "(FLAGS (UID))", "FLAG", "FLAGSS", "FLAGSFLAGS", "ALL", "FAST", "FULL", "(ALL)", "UIDS", "UI", "RFC822", "RFC822.SIZ", "RFC822.SIZES", "RFC822SIZE", "RFC822.TEXT", "MODSEQ (1)", "MODSE", "ENVELOPE", "INTERNALDATE", "MESSAGES", "UIDNEXT", "UNSEEN", "[]", "[TEXT]", ".PEEK[]",
		"BODY", "BODY.PEEK", "(BODY)", "(BODY UID)", "BODY[", "BODY]", "BODY[]]", "BODY[[]]", "BODY []", "BODY[ ]", "BODY[ HEADER]", "BODY[HEADER ]", "BODY[HEADERS]", "BODY[HEAD]", "BODY[HEADER", "BODY[HEADER.FIELDS (A)]", "BODY[TEX]", "BODY[TEXT", "BODY[TEXT]]", "BODY[1]", "BODY[MIME]", "BODY[BODY]", "BODY.PEEK []", "BODY.PEEK.PEEK[]", "BODYPEEK[]", "BODY.PEE[]", "BODY.[]", "BODYSTRUCTURE", "BODY[].PEEK", "BODY[]FLAGS", "(BODY[]FLAGS)",
		"BODY[]<", "BODY[]<>", "BODY[]<0>", "BODY[]<0.>", "BODY[]<.1>", "BODY[]<.>", "BODY[]<0.1", "BODY[]<0.0>", "BODY[]<1.0>", "BODY[]<00.1>", "BODY[]<0.01>", "BODY[]<01.1>", "BODY[]<0.1.2>", "BODY[]<0,1>", "BODY[]<0 1>", "BODY[]< 0.1>", "BODY[]<0.1 >", "BODY[] <0.1>", "BODY[]<0.1>>", "BODY[]<<0.1>>", "BODY[]<0.1><2.3>", "BODY[]<-1.1>", "BODY[]<0.-1>", "BODY[]<+0.1>", "BODY[]<a.1>", "BODY[]<0.a>", "BODY[]<4294967296.1>", "BODY[]<0.4294967296>", "BODY[]<18446744073709551616.1>", "BODY[]<0.18446744073709551617>", "BODY[]<*.1>", "BODY[]0.1", "BODY<0.1>[]", "BODY[<0.1>]", "FLAGS<0.1>", "UID<0.1>", "BODY[]<0.1>x", "BODY[]<0x1.1>",
		"FLAGS (CHANGEDSINCE)", "FLAGS (CHANGEDSINCE )", "FLAGS (CHANGEDSINCE 1", "FLAGS CHANGEDSINCE 1", "FLAGS  (CHANGEDSINCE 1)", "FLAGS(CHANGEDSINCE 1)", "FLAGS ( CHANGEDSINCE 1)", "FLAGS (CHANGEDSINCE  1)", "FLAGS (CHANGEDSINCE 1 )", "FLAGS (CHANGEDSINCE 1) ", "FLAGS (CHANGEDSINCE 1)x", "FLAGS (CHANGEDSINCE 01)", "FLAGS (CHANGEDSINCE 00)", "FLAGS (CHANGEDSINCE -1)", "FLAGS (CHANGEDSINCE +1)", "FLAGS (CHANGEDSINCE 9223372036854775808)", "FLAGS (CHANGEDSINCE 18446744073709551616)", "FLAGS (CHANGEDSINCE a)", "FLAGS (CHANGEDSINCE 1a)", "FLAGS (CHANGEDSINCE *)", "FLAGS (CHANGEDSINCE 1 2)", "FLAGS (CHANGEDSINCE 1) (CHANGEDSINCE 1)", "FLAGS (CHANGEDSINCE1)", "FLAGS (CHANGEDSINC 1)", "FLAGS (UNCHANGEDSINCE 1)", "FLAGS ()", "FLAGS (CHANGEDSINCE 1 VANISHED)", "(FLAGS (CHANGEDSINCE 1))", "(CHANGEDSINCE 1)", "(CHANGEDSINCE 1) FLAGS", "FLAGS [CHANGEDSINCE 1]", `FLAGS (CHANGEDSINCE "1")`, `FLAGS ("CHANGEDSINCE" 1)`, "FLAGS (CHANGEDSINCE\t1)",
		`"FLAGS"`, "{5}" + crlf + "FLAGS", "FLAGS\r\n", "FLAGS\x00", "\tFLAGS", "fl\u0131gs", "FLAG\u017f"} {
		l = append(l, " 1 "+items)
	}
	return l
}

func wrongStores() []string {
	l := []string{"", " ", " 1", " 1 ", " FLAGS (a)", " 1  FLAGS (a)", "  1 FLAGS (a)", " 1FLAGS (a)", " 0 FLAGS (a)", " 1, FLAGS (a)", " 4294967296 FLAGS (a)", " (1) FLAGS (a)", " a FLAGS (a)", " 1\tFLAGS (a)", " 1) FLAGS (a)"}
	for _, behind := range []string{"FLAGS", "FLAGS ", "FLAGS()", "FLAGS  ()", "FLAGS () ", "FLAGS ()x", "FLAGS ())", "FLAGS ( )", "FLAGS ( a)", "FLAGS (a )", "FLAGS (a  b)", "FLAGS (a", "FLAGS a)", "FLAGS a", `FLAGS \Seen`, `FLAGS (\Recent)`, `FLAGS (\*)`, `FLAGS ("a")`, "FLAGS (a%)", "FLAGS ((a))", "FLAGS (a) (b)", "FLAGS (" + strings.Repeat("a", 33) + ")", "FLAGS (a b c d e f g h i j k l m n o p q)", "FLAGS [a]", "FLAGS (é)",
		"FLAG ()", "FLAGSS ()", "+ FLAGS ()", "- FLAGS ()", "++FLAGS ()", "+-FLAGS ()", "-+FLAGS ()", "--FLAGS ()", "*FLAGS ()", "=FLAGS ()", "FLAGS+ ()", "FLAGS.SILEN ()", "FLAGS.SILENTS ()", "FLAGS .SILENT ()", "FLAGS. SILENT ()", "FLAGS. ()", "FLAGSSILENT ()", "FLAGS.SILENT.SILENT ()", "FLAGS.SILENT()", "FLAGS.SILENT", "FLAGS.SILENT ", ".SILENT ()", "+.SILENT ()", "+ ()", "+", "+()", "(FLAGS ())", `"FLAGS" ()`,
		"(UNCHANGEDSINCE 1)", "(UNCHANGEDSINCE 1) ", "(UNCHANGEDSINCE 1)FLAGS ()", "(UNCHANGEDSINCE 1)  FLAGS ()", "( UNCHANGEDSINCE 1) FLAGS ()", "(UNCHANGEDSINCE  1) FLAGS ()", "(UNCHANGEDSINCE 1 ) FLAGS ()", "(UNCHANGEDSINCE 1 FLAGS ()", "UNCHANGEDSINCE 1 FLAGS ()", "(UNCHANGEDSINCE) FLAGS ()", "(UNCHANGEDSINCE ) FLAGS ()", "(UNCHANGEDSINCE1) FLAGS ()", "(UNCHANGEDSINCE 01) FLAGS ()", "(UNCHANGEDSINCE -1) FLAGS ()", "(UNCHANGEDSINCE 9223372036854775808) FLAGS ()", "(UNCHANGEDSINCE *) FLAGS ()", "(UNCHANGEDSINCE a) FLAGS ()", "(CHANGEDSINCE 1) FLAGS ()", "() FLAGS ()", "(UNCHANGEDSINCE 1) (UNCHANGEDSINCE 1) FLAGS ()", "FLAGS () (UNCHANGEDSINCE 1)", "FLAGS (UNCHANGEDSINCE 1) ()", "+(UNCHANGEDSINCE 1) FLAGS ()", "FLAGS () (CHANGEDSINCE 1)", "[UNCHANGEDSINCE 1] FLAGS ()", "FLAGS ()" + crlf, "FLAGS ()\x00"} {
		l = append(l, " 1 "+behind)
	}
	return l
}

func wrongSearches() []string {
	l := []string{""}
	for _, keys := range []string{"", " ", "FOO", "ALL ", " ALL", "ALL  ALL", "ALL,ALL", "ALLALL", "AL", "ALLS", "()", "( )", "( ALL)", "(ALL )", "(ALL", "ALL)", "(ALL))", "((ALL)", "(ALL)(ALL)", "(ALL)ALL", "ALL(ALL)", "(ALL  ALL)", ")", "(", "[ALL]", "AND ALL", "AND",
		"NOT", "NOT ", "NOT)", "NOT  ALL", "NOT(ALL)", "NOTALL", "NOT NOT", "(NOT) ALL", "NOT ()", "NOT ( ALL)", "OR", "OR ", "OR ALL", "OR ALL ", "OR  ALL ALL", "OR ALL  ALL", "OR(ALL)(ALL)", "OR (ALL)(ALL)", "OR (ALL ALL)", "(OR ALL) ALL", "OR NOT ALL", "OR OR ALL ALL", "ALL OR ALL",
		"0", "01", "1,", ",1", "1:", ":1", "1:2:3", "1,,2", "1 ,2", "4294967296", "1:4294967296", "-1", "+1", "1a", "a1", "**", "*1", "1.2", `"1"`, "{1}" + crlf + "1", "1)", "(1", "UID", "UID ", "UID 0", "UID  1", "UID (1)", "UID a", "UID1", "UID 1,", "UID UID 1", "UID ALL", `UID "1"`,
		"SEE", "SEENS", `\Seen`, "UN", "UNALL", "UN SEEN", "UNUNSEEN", "UNNOT ALL", "UNOR ALL ALL", "UNUID 1", "UNTEXT x", "UN1", "NEW", "OLD", "RECENT", "UNRECENT", "UNLARGER 1", "UNHEADER a b", "UNSUBJECT x",
		"KEYWORD", "KEYWORD ", "KEYWORD  a", `KEYWORD \Seen`, `KEYWORD \seen`, `KEYWORD "a"`, "KEYWORD {1}" + crlf + "a", "KEYWORD a%", "KEYWORD (a)", "KEYWORD a)", "KEYWORD a(", "KEYWORD é", "KEYWORD " + strings.Repeat("a", 33), "KEYWORD a b", "UNKEYWORD", "UNKEYWORD ", `UNKEYWORD \Seen`, "UNKEYWORD " + strings.Repeat("a", 33), "KEYWORD ()", "KEYWORD a]",
		"LARGER", "LARGER ", "LARGER  1", "LARGER 01", "LARGER -1", "LARGER a", "LARGER 1a", "LARGER 1.5", "LARGER 9223372036854775808", "LARGER (1)", "LARGER *", `LARGER "1"`, "SMALLER", "SMALLER a", "SMALLER 00", "SMALLER 18446744073709551616", "MODSEQ", "MODSEQ a", "MODSEQ 9223372036854775808", `MODSEQ "/flags/x" all 1`, "MODSEQ 1:2", "LARGER 1,2", "LARGER1",
		"TEXT", "TEXT ", "TEXT  a", "TEXT (a)", "TEXT a)", `TEXT "a`, `TEXT a"`, `TEXT "a"b`, "TEXT {1}" + crlf, "TEXT {2}" + crlf + "a", "TEXT {1}" + crlf + "ab", "TEXT {01}" + crlf + "a", "TEXT a%", "TEXT *", "TEXT é", "TEXT a b", "BODY", "BODY ", "BODY[] a", "BODY.PEEK a", "BODY é", `BODY "é"`, "BODY {4097}" + crlf + strings.Repeat("x", 4097), "TEXT " + strings.Repeat("x", 4097), "SUBJECT", "SUBJECT ", "SUBJECT (a)", "FROM", "FROM é", "TO", "TO ", "TO \x00", "TOP a", "CC a", "BCC a", "SUBJECT a b",
		"HEADER", "HEADER ", "HEADER a", "HEADER a ", "HEADER  a b", "HEADER a  b", "HEADER (a) b", "HEADER a (b)", "HEADER a b c", "HEADER a: b", "HEADER : b", "HEADER :a b", `HEADER "" b`, `HEADER "a b" c`, `HEADER "a:" b`, `HEADER " a" b`, "HEADER {2}" + crlf + "é b", "HEADER {1}" + crlf + "\x7f b", "HEADER {0}" + crlf + " b", "HEADER {1}" + crlf + "\t b", "HEADER " + strings.Repeat("a", 33) + " b", `HEADER "` + strings.Repeat("a", 33) + `" b`, "HEADER a% b", `HEADER "a"b c`, "HEADER {1}" + crlf + "ab c", "HEADER {1}" + crlf + "a", "HEADER é b", "HEADER \"\x01\" b", "HEADER \"\x7f\" b", "HEADER {3}" + crlf + "a\x80b c",
		"CHARSET UTF-8 ALL", "RETURN (MIN) ALL", "ON 1-Jan-2026", "SINCE 1-Jan-2026", "ALL" + crlf, "ALL\x00", "ALL\tALL", "\u0131", "\u017feen", "AL\x80", `"ALL"`, "{3}" + crlf + "ALL", "(ALL)\x00", "( (ALL))", "((ALL) )", "ALL UNFOO"} {
		l = append(l, " "+keys)
	}
	return l
}

// TestForms: P8.1, ErrForm where the rest is wrong.
func TestForms(t *testing.T) {
	for name, l := range wrongs() {
		if len(l) == 0 || kinds()[name].kind == 0 {
			t.Fatalf("nothing of %s", name)
		}
		for _, s := range l {
			refuses(t, "a "+name+s, api.ErrForm)
			refuses(t, "tag "+strings.ToLower(name)+s, api.ErrForm)
			if kinds()[name].uid {
				refuses(t, "a UID "+name+s, api.ErrForm)
			}
		}
	}
}
