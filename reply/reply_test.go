package reply_test

import (
	"reflect"
	"strings"
	"testing"

	"posthorn/api"
	"posthorn/reply"
)

const crlf = "\r\n"

// plain is a reply with lists that are nil where they are empty.
func plain(r api.Reply) api.Reply {
	if len(r.Nums) == 0 {
		r.Nums = nil
	}
	if len(r.Flags) == 0 {
		r.Flags = nil
	}
	values := r.Values
	r.Values = nil
	for _, v := range values {
		if len(v.Flags) == 0 {
			v.Flags = nil
		}
		r.Values = append(r.Values, v)
	}
	return r
}

// alike says whether two replies are.
func alike(a, b api.Reply) bool { return reflect.DeepEqual(plain(a), plain(b)) }

// short is a text, or its beginning.
func short(s string) string {
	if len(s) > 200 {
		return s[:200] + ".."
	}
	return s
}

// reads checks that s begins with so many bytes of a reply, and that this is printed as they are.
func reads(t *testing.T, s string, want api.Reply, n int) {
	t.Helper()
	got, gotN, e := reply.Read(s)
	if e != api.OK || gotN != n || !alike(got, want) {
		t.Errorf("Read(%q) = %+v, %d, %d; must be %+v, %d", short(s), got, gotN, e, want, n)
		return
	}
	if text, e := reply.Print(got); text != s[:n] || e != api.OK {
		t.Errorf("Read(%q), printed: %q, %d", short(s), short(text), e)
	}
}

// refuses checks that s begins with no reply.
func refuses(t *testing.T, s string) {
	t.Helper()
	if got, n, e := reply.Read(s); e != api.ErrForm || n != 0 || !reflect.DeepEqual(got, api.Reply{}) {
		t.Errorf("Read(%q) = %+v, %d, %d; must be %d", short(s), got, n, e, api.ErrForm)
	}
}

// behind is what may stand behind a reply, which it changes nothing of.
func behind() []string {
	return []string{"", " ", "\r", "\n", crlf, "\x00", "\xff", ")", "]", ">", "(", "0", "x", `"`, "* SEARCH" + crlf, "a OK x" + crlf, "a OK x", " (MODSEQ 9)" + crlf, "{1}" + crlf}
}

// prints checks that a reply has a text, and that this is read as it, whatever stands behind.
func prints(t *testing.T, r api.Reply, want string) {
	t.Helper()
	if got, e := reply.Print(r); got != want || e != api.OK {
		t.Errorf("Print(%+v) = %q, %d; must be %q", r, short(got), e, short(want))
		return
	}
	for _, s := range behind() {
		reads(t, want+s, r, len(want))
	}
}

// isNone checks that something is no reply.
func isNone(t *testing.T, r api.Reply) {
	t.Helper()
	if got, e := reply.Print(r); got != "" || e != api.ErrArg {
		t.Errorf("Print(%+v) = %q, %d", r, short(got), e)
	}
}

// one is a reply of each shape, with its text, but for its line's end.
type one struct {
	text string
	r    api.Reply
}

// status and fetch are replies of values.
func status(l ...api.Value) api.Reply { return api.Reply{Kind: api.RepStatus, Box: "x", Values: l} }
func fetch(l ...api.Value) api.Reply  { return api.Reply{Kind: api.RepFetch, N: 3, Values: l} }

// eachShape is replies of all shapes that the chapter has, with their texts.
func eachShape() []one {
	return append(shapesOfLines(), shapesOfValues()...)
}

func shapesOfLines() []one {
	return []one{
		{"a OK done", api.Reply{Kind: api.RepOk, Tag: "a", Text: "done"}},
		{"* OK posthorn", api.Reply{Kind: api.RepOk, Tag: "*", Text: "posthorn"}},
		{"a OK [READ-WRITE] done", api.Reply{Kind: api.RepOk, Tag: "a", Code: "READ-WRITE", Text: "done"}},
		{"A.1 OK  x ]", api.Reply{Kind: api.RepOk, Tag: "A.1", Text: " x ]"}},
		{"* OK [UIDNEXT 7]  ", api.Reply{Kind: api.RepOk, Tag: "*", Code: "UIDNEXT 7", Text: " "}},
		{"b NO [AUTHENTICATIONFAILED] wrong password.", api.Reply{Kind: api.RepNo, Tag: "b", Code: "AUTHENTICATIONFAILED", Text: "wrong password."}},
		{"* NO x", api.Reply{Kind: api.RepNo, Tag: "*", Text: "x"}},
		{"nil BAD not now", api.Reply{Kind: api.RepBad, Tag: "nil", Text: "not now"}},
		{"* BAD [[[] ]", api.Reply{Kind: api.RepBad, Tag: "*", Code: "[[", Text: "]"}},
		{"OK OK OK", api.Reply{Kind: api.RepOk, Tag: "OK", Text: "OK"}},
		{"* BYE x", api.Reply{Kind: api.RepBye, Tag: "*", Text: "x"}},
		{"* BYE [ ] x[y]", api.Reply{Kind: api.RepBye, Tag: "*", Code: " ", Text: "x[y]"}},
		{"+ go on", api.Reply{Kind: api.RepGo, Text: "go on"}},
		{"+ [x", api.Reply{Kind: api.RepGo, Text: "[x"}},
		{"+  OK x", api.Reply{Kind: api.RepGo, Text: " OK x"}},
		{"* CAPABILITY IMAP4rev1 ENABLE CONDSTORE", api.Reply{Kind: api.RepCaps}},
		{"* ENABLED CONDSTORE", api.Reply{Kind: api.RepEnabled}},
		{"* 0 EXISTS", api.Reply{Kind: api.RepExists}},
		{"* 32 EXISTS", api.Reply{Kind: api.RepExists, N: 32}},
		{"* 9223372036854775807 EXISTS", api.Reply{Kind: api.RepExists, N: 1<<63 - 1}},
		{"* 1 EXPUNGE", api.Reply{Kind: api.RepExpunge, N: 1}},
		{"* 0 EXPUNGE", api.Reply{Kind: api.RepExpunge}},
		{"* FLAGS ()", api.Reply{Kind: api.RepFlags}},
		{`* FLAGS (\Answered \Flagged \Deleted \Seen \Draft a b)`, api.Reply{Kind: api.RepFlags, Flags: strings.Fields(`\Answered \Flagged \Deleted \Seen \Draft a b`)}},
		{`* LIST () "/" INBOX`, api.Reply{Kind: api.RepList, Box: "INBOX"}},
		{`* LIST () "/" "a b"`, api.Reply{Kind: api.RepList, Box: "a b"}},
		{`* LIST () "/" "nil"`, api.Reply{Kind: api.RepList, Box: "nil"}},
		{`* LIST () "/" "{1}"`, api.Reply{Kind: api.RepList, Box: "{1}"}},
		{`* LIST () "/" a/b`, api.Reply{Kind: api.RepList, Box: "a/b"}},
		{"* SEARCH", api.Reply{Kind: api.RepSearch}},
		{"* SEARCH 0", api.Reply{Kind: api.RepSearch, Nums: []uint64{0}}},
		{"* SEARCH 2 4 (MODSEQ 9)", api.Reply{Kind: api.RepSearch, Nums: []uint64{2, 4}, Mod: 9}},
		{"* SEARCH 4 2 4", api.Reply{Kind: api.RepSearch, Nums: []uint64{4, 2, 4}}},
		{"* SEARCH (MODSEQ 1)", api.Reply{Kind: api.RepSearch, Mod: 1}},
		{"* SEARCH 9223372036854775807 (MODSEQ 9223372036854775807)", api.Reply{Kind: api.RepSearch, Nums: []uint64{1<<63 - 1}, Mod: 1<<63 - 1}},
	}
}

func shapesOfValues() []one {
	return []one{
		{"* STATUS INBOX (MESSAGES 1 UNSEEN 0)", api.Reply{Kind: api.RepStatus, Box: "INBOX", Values: []api.Value{{Kind: api.ItemMessages, N: 1}, {Kind: api.ItemUnseen}}}},
		{"* STATUS x (HIGHESTMODSEQ 9223372036854775807 UIDVALIDITY 2 UIDNEXT 3)", status(api.Value{Kind: api.ItemHighest, N: 1<<63 - 1}, api.Value{Kind: api.ItemValidity, N: 2}, api.Value{Kind: api.ItemNext, N: 3})},
		{`* STATUS "a (b" (UIDNEXT 1 UIDNEXT 1)`, api.Reply{Kind: api.RepStatus, Box: "a (b", Values: []api.Value{{Kind: api.ItemNext, N: 1}, {Kind: api.ItemNext, N: 1}}}},
		{"* 3 FETCH (UID 7 MODSEQ (9))", fetch(api.Value{Kind: api.ItemUid, N: 7}, api.Value{Kind: api.ItemModseq, N: 9})},
		{"* 0 FETCH (MODSEQ (0))", api.Reply{Kind: api.RepFetch, Values: []api.Value{{Kind: api.ItemModseq}}}},
		{"* 9223372036854775807 FETCH (RFC822.SIZE 9223372036854775807)", api.Reply{Kind: api.RepFetch, N: 1<<63 - 1, Values: []api.Value{{Kind: api.ItemSize, N: 1<<63 - 1}}}},
		{"* 3 FETCH (FLAGS ())", fetch(api.Value{Kind: api.ItemFlags})},
		{`* 3 FETCH (FLAGS (\Seen a) UID 0 FLAGS (b))`, fetch(api.Value{Kind: api.ItemFlags, Flags: []string{`\Seen`, "a"}}, api.Value{Kind: api.ItemUid}, api.Value{Kind: api.ItemFlags, Flags: []string{"b"}})},
		{"* 3 FETCH (BODY[] {0}" + crlf + ")", fetch(api.Value{Kind: api.ItemBody})},
		{"* 3 FETCH (BODY[HEADER] {4}" + crlf + ")" + crlf + "* BODY[TEXT] {1}" + crlf + "\xff)", fetch(api.Value{Kind: api.ItemHeader, Text: ")" + crlf + "*"}, api.Value{Kind: api.ItemText, Text: "\xff"})},
		{"* 3 FETCH (BODY[]<0> {2}" + crlf + "\x00} UID 1)", fetch(api.Value{Kind: api.ItemBody, Part: true, Text: "\x00}"}, api.Value{Kind: api.ItemUid, N: 1})},
		{"* 3 FETCH (BODY[TEXT]<9223372036854775807> {0}" + crlf + " BODY[HEADER]<12> {2}" + crlf + crlf + ")", fetch(api.Value{Kind: api.ItemText, Part: true, From: 1<<63 - 1}, api.Value{Kind: api.ItemHeader, Part: true, From: 12, Text: crlf})},
	}
}

// TestShapes: P9.1, P9.2 and P9.3, of each kind.
func TestShapes(t *testing.T) {
	for _, x := range eachShape() {
		prints(t, x.r, x.text+crlf)
	}
}

// TestNoReplies: P9.2, texts that begin with none.
func TestNoReplies(t *testing.T) {
	for _, s := range []string{
		"", " ", "*", "* ", "+", "+ ", crlf, "a", "a ", "\x00", "OK", "* OK", "* x" + crlf, "*" + crlf, "+" + crlf, "+ " + crlf, "a OK", "a OK x", "a OK x\r", "a OK x\n",
		"a OK" + crlf, "a OK " + crlf, " OK x" + crlf, "a  OK x" + crlf, "a ok x" + crlf, "a Ok x" + crlf, "a OKAY x" + crlf, "a OK\tx" + crlf, "a PREAUTH x" + crlf, "+ OK" + "\n", "+x OK x" + crlf, "+a OK x" + crlf, "** OK x" + crlf, "a* OK x" + crlf, "( OK x" + crlf,
		"a OK [x" + crlf, "a OK [x]" + crlf, "a OK [x] " + crlf, "a OK [x]y" + crlf, "a OK [] y" + crlf, "a OK [x] [y]" + crlf, "a OK [x] [y] z" + crlf, "a OK [x" + crlf + "] y" + crlf, "a OK [x]  " + "\n", "a OK [" + crlf,
		"a BYE x" + crlf, "a BYE [x] x" + crlf, "BYE x" + crlf, "* BYE" + crlf, "* bye x" + crlf, "*  BYE x" + crlf,
		"* CAPABILITY IMAP4REV1 ENABLE CONDSTORE" + crlf, "* CAPABILITY IMAP4rev1" + crlf, "* CAPABILITY IMAP4rev1 ENABLE CONDSTORE " + crlf, "* CAPABILITY IMAP4rev1 CONDSTORE ENABLE" + crlf, "* capability IMAP4rev1 ENABLE CONDSTORE" + crlf,
		"* ENABLED" + crlf, "* ENABLED " + crlf, "* ENABLED CONDSTORE QRESYNC" + crlf, "* ENABLED condstore" + crlf, "a ENABLED CONDSTORE" + crlf,
		"* 3 exists" + crlf, "* 03 EXISTS" + crlf, "* EXISTS" + crlf, "*  EXISTS" + crlf, "* 3  EXISTS" + crlf, "* 3 EXISTS " + crlf, "* 3 EXISTS", "3 EXISTS" + crlf, "a 3 EXISTS" + crlf, "* -1 EXISTS" + crlf, "* +1 EXISTS" + crlf, "* 3EXISTS" + crlf, "* * EXISTS" + crlf, "* 1,2 EXISTS" + crlf, "* 9223372036854775808 EXISTS" + crlf, "* 18446744073709551617 EXPUNGE" + crlf,
		"* 3 EXPUNGED" + crlf, "* 3 Expunge" + crlf, "* 00 EXPUNGE" + crlf, "* 3 RECENT" + crlf,
		"* FLAGS" + crlf, "* FLAGS " + crlf, "* FLAGS  ()" + crlf, "* FLAGS () " + crlf, "* FLAGS (b a)" + crlf, "* FLAGS (a a)" + crlf, "* FLAGS (A)" + crlf, `* FLAGS (\seen)` + crlf, `* FLAGS (\Seen \Answered)` + crlf, `* FLAGS (a \Seen)` + crlf, "* FLAGS (a  b)" + crlf, "* FLAGS ( a)" + crlf, "* FLAGS (a )" + crlf, "* FLAGS (a" + crlf, "* FLAGS a" + crlf, `* FLAGS (\Recent)` + crlf, `* FLAGS (\*)` + crlf, "* flags ()" + crlf,
		`* LIST () "/"` + crlf, `* LIST () "/" ` + crlf, `* LIST () / x` + crlf, `* LIST (\Noselect) "/" x` + crlf, `* LIST () "." x` + crlf, `* LIST () NIL x` + crlf, `* LIST () "/" inbox` + crlf, `* LIST () "/" "INBOX"` + crlf, `* LIST () "/" "x"` + crlf, `* LIST () "/" nil` + crlf, `* LIST () "/" NIL` + crlf, `* LIST () "/" a b` + crlf, `* LIST () "/" ""` + crlf, `* LIST () "/" " a"` + crlf, `* LIST () "/" "a "` + crlf, `* LIST () "/" "a*"` + crlf, `* LIST () "/" a%` + crlf, `* LIST () "/" "a\"b"` + crlf, `* LIST () "/" "a\\b"` + crlf, `* LIST () "/" {1}` + crlf + "x" + crlf, `* LIST () "/" (x)` + crlf, `* LIST () "/" "(x)` + crlf, `* list () "/" x` + crlf, `* LIST () "/"  x` + crlf, `* LIST () "/" x ` + crlf,
		"* SEARCH " + crlf, "* SEARCH  1" + crlf, "* SEARCH 1 " + crlf, "* SEARCH 1  2" + crlf, "* SEARCH 01" + crlf, "* SEARCH x" + crlf, "* SEARCH 1,2" + crlf, "* SEARCH 1(MODSEQ 2)" + crlf, "* SEARCH(MODSEQ 2)" + crlf, "* SEARCH1" + crlf, "* SEARCH 1 (MODSEQ 0)" + crlf, "* SEARCH 1 (MODSEQ 02)" + crlf, "* SEARCH 1 (MODSEQ)" + crlf, "* SEARCH 1 (MODSEQ )" + crlf, "* SEARCH 1 (MODSEQ 2" + crlf, "* SEARCH 1 (MODSEQ 2) 3" + crlf, "* SEARCH 1 (MODSEQ 2) (MODSEQ 2)" + crlf, "* SEARCH (MODSEQ 2) " + crlf, "* SEARCH 1 (modseq 2)" + crlf, "* SEARCH 1 ( MODSEQ 2)" + crlf, "* search" + crlf, "* SEARCH 1  (MODSEQ 2)" + crlf, "* SEARCH 9223372036854775808" + crlf, "* SEARCH (MODSEQ 9223372036854775808)" + crlf,
	} {
		refuses(t, s)
	}
}

// TestNoValues: P9.2, of STATUS and FETCH.
func TestNoValues(t *testing.T) {
	for _, s := range []string{
		"* STATUS" + crlf, "* STATUS x" + crlf, "* STATUS x " + crlf, "* STATUS x ()" + crlf, "* STATUS x (MESSAGES)" + crlf, "* STATUS x (MESSAGES )" + crlf, "* STATUS x (MESSAGES 01)" + crlf, "* STATUS x (messages 1)" + crlf, "* STATUS x (MESSAGES 1" + crlf, "* STATUS x (MESSAGES 1 )" + crlf, "* STATUS x (MESSAGES 1  UNSEEN 1)" + crlf, "* STATUS x ( MESSAGES 1)" + crlf, "* STATUS x (MESSAGES 1)(UNSEEN 1)" + crlf, "* STATUS x (MESSAGES 1) " + crlf, "* STATUS x MESSAGES 1" + crlf, "* STATUS x  (MESSAGES 1)" + crlf, "* STATUS  x (MESSAGES 1)" + crlf, "* STATUS (MESSAGES 1)" + crlf, "* STATUS x(MESSAGES 1)" + crlf, "* STATUS inbox (MESSAGES 1)" + crlf, `* STATUS "x" (MESSAGES 1)` + crlf, "* STATUS nil (MESSAGES 1)" + crlf, "* STATUS x (RECENT 1)" + crlf, "* STATUS x (UID 1)" + crlf, "* STATUS x (MODSEQ (1))" + crlf, "* STATUS x (FLAGS ())" + crlf, "* STATUS x (RFC822.SIZE 1)" + crlf, "* STATUS x (BODY[] {0}" + crlf + ")" + crlf, "* STATUS x (MESSAGES (1))" + crlf, "* STATUS x (HIGHESTMODSEQ (1))" + crlf, "* status x (MESSAGES 1)" + crlf, "* STATUS x (MESSAGES1)" + crlf, "* STATUS x (MESSAGES 9223372036854775808)" + crlf, "* STATUS x (MESSAGES 1)", "STATUS x (MESSAGES 1)" + crlf,
		"* FETCH (UID 1)" + crlf, "* 1 FETCH" + crlf, "* 1 FETCH " + crlf, "* 1 FETCH ()" + crlf, "* 1 FETCH UID 1" + crlf, "* 1 FETCH (UID)" + crlf, "* 1 FETCH (UID 01)" + crlf, "* 1 FETCH (UID 1" + crlf, "* 1 FETCH (UID 1 )" + crlf, "* 1 FETCH ( UID 1)" + crlf, "* 1 FETCH (UID 1  UID 1)" + crlf, "* 1 FETCH (UID 1)(UID 1)" + crlf, "* 1 FETCH (uid 1)" + crlf, "* 1 fetch (UID 1)" + crlf, "* 1 FETCH (UID (1))" + crlf, "* 01 FETCH (UID 1)" + crlf, "* 1 FETCH (UID 1) " + crlf, "* 1 FETCH  (UID 1)" + crlf, "* 1 FETCH(UID 1)" + crlf, "* 1 FETCH (UID 1)", "* 9223372036854775808 FETCH (UID 1)" + crlf,
		"* 1 FETCH (MESSAGES 1)" + crlf, "* 1 FETCH (UIDNEXT 1)" + crlf, "* 1 FETCH (HIGHESTMODSEQ 1)" + crlf, "* 1 FETCH (UNSEEN 1)" + crlf, "* 1 FETCH (UIDVALIDITY 1)" + crlf, "* 1 FETCH (RFC822 1)" + crlf, "* 1 FETCH (RFC822.SIZE (1))" + crlf, "* 1 FETCH (RFC822.SIZE)" + crlf,
		"* 1 FETCH (MODSEQ 1)" + crlf, "* 1 FETCH (MODSEQ ())" + crlf, "* 1 FETCH (MODSEQ (1)" + crlf, "* 1 FETCH (MODSEQ (01))" + crlf, "* 1 FETCH (MODSEQ ( 1))" + crlf, "* 1 FETCH (MODSEQ (1 ))" + crlf, "* 1 FETCH (MODSEQ(1))" + crlf, "* 1 FETCH (MODSEQ  (1))" + crlf, "* 1 FETCH (MODSEQ (9223372036854775808))" + crlf,
		"* 1 FETCH (FLAGS)" + crlf, "* 1 FETCH (FLAGS a)" + crlf, "* 1 FETCH (FLAGS (b a))" + crlf, "* 1 FETCH (FLAGS (A))" + crlf, `* 1 FETCH (FLAGS (\seen))` + crlf, "* 1 FETCH (FLAGS())" + crlf, "* 1 FETCH (FLAGS ()" + crlf, "* 1 FETCH (FLAGS ( ))" + crlf, "* 1 FETCH (FLAGS (a)UID 1)" + crlf,
		"* 1 FETCH (BODY[])" + crlf, "* 1 FETCH (BODY[] )" + crlf, "* 1 FETCH (BODY[] x)" + crlf, `* 1 FETCH (BODY[] "x")` + crlf, "* 1 FETCH (BODY[] NIL)" + crlf, "* 1 FETCH (BODY[]{0}" + crlf + ")" + crlf, "* 1 FETCH (BODY[]  {0}" + crlf + ")" + crlf, "* 1 FETCH (BODY[] {00}" + crlf + ")" + crlf, "* 1 FETCH (BODY[] {01}" + crlf + "x)" + crlf, "* 1 FETCH (BODY[] {}" + crlf + ")" + crlf, "* 1 FETCH (BODY[] {1}x)" + crlf, "* 1 FETCH (BODY[] {1}\nx)" + crlf, "* 1 FETCH (BODY[] {1}\rx)" + crlf, "* 1 FETCH (BODY[] {1+}" + crlf + "x)" + crlf, "* 1 FETCH (BODY[] {2}" + crlf + "x)" + crlf, "* 1 FETCH (BODY[] {0}" + crlf + "x)" + crlf, "* 1 FETCH (BODY[] {5}" + crlf + "x)" + crlf, "* 1 FETCH (BODY[] {4096}" + crlf + "x)" + crlf, "* 1 FETCH (BODY[] {9223372036854775807}" + crlf + "x)" + crlf, "* 1 FETCH (BODY[] {18446744073709551617}" + crlf + "x)" + crlf, "* 1 FETCH (BODY[] ~{1}" + crlf + "x)" + crlf,
		"* 1 FETCH (BODY {0}" + crlf + ")" + crlf, "* 1 FETCH (BODY[ {0}" + crlf + ")" + crlf, "* 1 FETCH (BODY[header] {0}" + crlf + ")" + crlf, "* 1 FETCH (body[] {0}" + crlf + ")" + crlf, "* 1 FETCH (BODY[1] {0}" + crlf + ")" + crlf, "* 1 FETCH (BODY.PEEK[] {0}" + crlf + ")" + crlf, "* 1 FETCH (BODY[HEADER TEXT] {0}" + crlf + ")" + crlf,
		"* 1 FETCH (BODY[]<> {0}" + crlf + ")" + crlf, "* 1 FETCH (BODY[]<0 {0}" + crlf + ")" + crlf, "* 1 FETCH (BODY[]0> {0}" + crlf + ")" + crlf, "* 1 FETCH (BODY[]<00> {0}" + crlf + ")" + crlf, "* 1 FETCH (BODY[]<0.1> {0}" + crlf + ")" + crlf, "* 1 FETCH (BODY[] <0> {0}" + crlf + ")" + crlf, "* 1 FETCH (BODY[]<0>{0}" + crlf + ")" + crlf, "* 1 FETCH (BODY[]<0><0> {0}" + crlf + ")" + crlf, "* 1 FETCH (BODY[]<9223372036854775808> {0}" + crlf + ")" + crlf, "* 1 FETCH (BODY[]<-1> {0}" + crlf + ")" + crlf, "* 1 FETCH (BODY[] {0}" + crlf + "<0>)" + crlf, "* 1 FETCH (UID<0> 1)" + crlf, "* 1 FETCH (FLAGS<0> ())" + crlf,
	} {
		refuses(t, s)
	}
}
