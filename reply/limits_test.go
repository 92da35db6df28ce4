package reply_test

import (
	"math"
	"slices"
	"strconv"
	"strings"
	"testing"

	"posthorn/api"
)

// sizes is those at a limit, about it, and beyond.
func sizes(limit int) []int { return []int{1, 2, limit - 1, limit, limit + 1, 1 << 20} }

// TestTextBound: P9.1 and P9.2, 1 to 512 bytes of a text and of a code, each counted by itself.
func TestTextBound(t *testing.T) {
	for _, n := range sizes(512) {
		x := strings.Repeat("x", n)
		for r, text := range map[*api.Reply]string{
			{Kind: api.RepOk, Tag: "a", Text: x}:                                          "a OK " + x,
			{Kind: api.RepNo, Tag: "*", Code: "c", Text: x}:                               "* NO [c] " + x,
			{Kind: api.RepBad, Tag: "a", Code: x, Text: "y"}:                              "a BAD [" + x + "] y",
			{Kind: api.RepBye, Tag: "*", Code: x, Text: x}:                                "* BYE [" + x + "] " + x,
			{Kind: api.RepGo, Text: x}:                                                    "+ " + x,
			{Kind: api.RepOk, Tag: "a", Text: "y" + x[1:]}:                                "a OK y" + x[1:],
			{Kind: api.RepOk, Tag: "a", Code: x, Text: strings.Repeat("y ", 256)}:         "a OK [" + x + "] " + strings.Repeat("y ", 256),
			{Kind: api.RepOk, Tag: "a", Code: strings.Repeat("[ ", 256), Text: x}:         "a OK [" + strings.Repeat("[ ", 256) + "] " + x,
			{Kind: api.RepNo, Tag: strings.Repeat("t", 32), Code: "c", Text: " " + x[1:]}: strings.Repeat("t", 32) + " NO [c]  " + x[1:],
		} {
			if n <= 512 {
				prints(t, *r, text+crlf)
			} else {
				isNone(t, *r)
				refuses(t, text+crlf)
			}
		}
	}
	for _, kind := range []int{api.RepOk, api.RepNo, api.RepBad, api.RepBye, api.RepGo} {
		r := api.Reply{Kind: kind, Tag: "*"}
		if kind == api.RepGo {
			r.Tag = ""
		}
		isNone(t, r)
		if kind != api.RepGo {
			r.Code = "x"
			isNone(t, r)
		}
	}
}

// TestTagBound: P9.1 and P9.2, a star, or an atom of at most 32 bytes without a plus; of BYE a star.
func TestTagBound(t *testing.T) {
	for _, n := range sizes(32) {
		tag := strings.Repeat("a", n)
		for kind, name := range map[int]string{api.RepOk: " OK x", api.RepNo: " NO x", api.RepBad: " BAD x", api.RepBye: " BYE x"} {
			r := api.Reply{Kind: kind, Tag: tag, Text: "x"}
			if n <= 32 && kind != api.RepBye {
				prints(t, r, tag+name+crlf)
			} else {
				isNone(t, r)
				refuses(t, tag+name+crlf)
			}
		}
	}
	for b := range 256 {
		c := string([]byte{byte(b)})
		for _, tag := range []string{c, c + "a", "a" + c, "a" + c + "a", "*" + c, c + "*"} {
			r := api.Reply{Kind: api.RepOk, Tag: tag, Text: "x"}
			if text, ok := said(r); ok {
				prints(t, r, text)
			} else {
				isNone(t, r)
			}
			asks(t, tag+" OK x"+crlf)
			r.Kind = api.RepBye
			if tag == "*" {
				prints(t, r, "* BYE x"+crlf)
			} else {
				isNone(t, r)
			}
		}
	}
}

// TestTextOfEachByte: P9.1 and P9.2, from 20 to 7E; a text of some kinds doesn't begin with a bracket, no code has one that closes.
func TestTextOfEachByte(t *testing.T) {
	for b := range 256 {
		c := string([]byte{byte(b)})
		for _, x := range []string{c, c + "a", "a" + c, "a" + c + "a", c + c} {
			for _, r := range []api.Reply{
				{Kind: api.RepOk, Tag: "a", Text: x}, {Kind: api.RepNo, Tag: "a", Code: "x", Text: x}, {Kind: api.RepBad, Tag: "a", Code: x, Text: "x"},
				{Kind: api.RepBye, Tag: "*", Code: x, Text: x}, {Kind: api.RepGo, Text: x},
			} {
				text, ok := said(r)
				if ok {
					prints(t, r, text)
				} else {
					isNone(t, r)
				}
				asks(t, text)
			}
		}
	}
}

// TestNumberBound: P9.1 and P9.2, at most 2^63 - 1, wherever numbers stand.
func TestNumberBound(t *testing.T) {
	for _, n := range []uint64{0, 1, 9, 10, 1<<32 - 1, 1 << 32, 1<<63 - 2, 1<<63 - 1, 1 << 63, 1<<63 + 1, math.MaxUint64} {
		d := strconv.FormatUint(n, 10)
		for r, text := range map[*api.Reply]string{
			{Kind: api.RepExists, N: n}:                                                "* " + d + " EXISTS",
			{Kind: api.RepExpunge, N: n}:                                               "* " + d + " EXPUNGE",
			{Kind: api.RepSearch, Nums: []uint64{n}}:                                   "* SEARCH " + d,
			{Kind: api.RepSearch, Nums: []uint64{1, n}, Mod: 2}:                        "* SEARCH 1 " + d + " (MODSEQ 2)",
			{Kind: api.RepFetch, N: n, Values: []api.Value{{Kind: api.ItemUid, N: 1}}}: "* " + d + " FETCH (UID 1)",
			ref(status(api.Value{Kind: api.ItemMessages, N: n})):                       "* STATUS x (MESSAGES " + d + ")",
			ref(status(api.Value{Kind: api.ItemNext, N: n})):                           "* STATUS x (UIDNEXT " + d + ")",
			ref(status(api.Value{Kind: api.ItemValidity, N: n})):                       "* STATUS x (UIDVALIDITY " + d + ")",
			ref(status(api.Value{Kind: api.ItemUnseen, N: n})):                         "* STATUS x (UNSEEN " + d + ")",
			ref(status(api.Value{Kind: api.ItemHighest, N: n})):                        "* STATUS x (HIGHESTMODSEQ " + d + ")",
			ref(fetch(api.Value{Kind: api.ItemUid, N: n})):                             "* 3 FETCH (UID " + d + ")",
			ref(fetch(api.Value{Kind: api.ItemSize, N: n})):                            "* 3 FETCH (RFC822.SIZE " + d + ")",
			ref(fetch(api.Value{Kind: api.ItemModseq, N: n})):                          "* 3 FETCH (MODSEQ (" + d + "))",
			ref(fetch(api.Value{Kind: api.ItemBody, Part: true, From: n})):             "* 3 FETCH (BODY[]<" + d + "> {0}" + crlf + ")",
			ref(fetch(api.Value{Kind: api.ItemText, Part: true, From: n, Text: "x"})):  "* 3 FETCH (BODY[TEXT]<" + d + "> {1}" + crlf + "x)",
		} {
			if n>>63 == 0 {
				prints(t, *r, text+crlf)
			} else {
				isNone(t, *r)
				refuses(t, text+crlf)
			}
			refuses(t, strings.Replace(text, d, "0"+d, 1)+crlf)
			refuses(t, strings.Replace(text, d, d+"0000000000000000000", 1)+crlf+"x")
		}
		mod := api.Reply{Kind: api.RepSearch, Nums: []uint64{4}, Mod: n}
		switch text := "* SEARCH 4 (MODSEQ " + d + ")" + crlf; {
		case n == 0:
			prints(t, mod, "* SEARCH 4"+crlf)
			refuses(t, text)
		case n>>63 == 0:
			prints(t, mod, text)
		default:
			isNone(t, mod)
			refuses(t, text)
		}
	}
}

// ref is a reply that a map may have as a key.
func ref(r api.Reply) *api.Reply { return &r }

// TestNumsBound: P9.1 and P9.2, 0 to 64 numbers of a SEARCH.
func TestNumsBound(t *testing.T) {
	for _, n := range append(sizes(64), 0) {
		for _, mod := range []uint64{0, 9} {
			r := api.Reply{Kind: api.RepSearch, Nums: slices.Repeat([]uint64{7}, n), Mod: mod}
			text := "* SEARCH" + strings.Repeat(" 7", n)
			if mod > 0 {
				text += " (MODSEQ 9)"
			}
			if n <= 64 {
				prints(t, r, text+crlf)
			} else {
				isNone(t, r)
				refuses(t, text+crlf)
			}
		}
	}
}

// TestValuesBound: P9.1 and P9.2, 1 to 10 values.
func TestValuesBound(t *testing.T) {
	isNone(t, status())
	isNone(t, fetch())
	isNone(t, status([]api.Value{}...))
	for _, n := range []int{1, 2, 9, 10, 11, 1 << 14} {
		for r, text := range map[*api.Reply]string{
			ref(status(slices.Repeat([]api.Value{{Kind: api.ItemUnseen, N: 2}}, n)...)):                          "* STATUS x (" + strings.Repeat(" UNSEEN 2", n)[1:] + ")",
			ref(fetch(slices.Repeat([]api.Value{{Kind: api.ItemUid, N: 2}}, n)...)):                              "* 3 FETCH (" + strings.Repeat(" UID 2", n)[1:] + ")",
			ref(fetch(slices.Repeat([]api.Value{{Kind: api.ItemBody, Text: ") "}}, n)...)):                       "* 3 FETCH (" + strings.Repeat(" BODY[] {2}"+crlf+") ", n)[1:] + ")",
			ref(fetch(slices.Repeat([]api.Value{{Kind: api.ItemFlags, Flags: []string{"a"}}}, n)...)):            "* 3 FETCH (" + strings.Repeat(" FLAGS (a)", n)[1:] + ")",
			ref(fetch(slices.Repeat([]api.Value{{Kind: api.ItemHeader, Part: true, From: 1, Text: "x"}}, n)...)): "* 3 FETCH (" + strings.Repeat(" BODY[HEADER]<1> {1}"+crlf+"x", n)[1:] + ")",
		} {
			if n <= 10 {
				prints(t, *r, text+crlf)
			} else {
				isNone(t, *r)
				refuses(t, text+crlf)
			}
		}
	}
}

// TestBodyBound: P9.1 and P9.2, at most 4096 bytes, whatever they are.
func TestBodyBound(t *testing.T) {
	for _, kind := range []int{api.ItemBody, api.ItemHeader, api.ItemText} {
		name := map[int]string{api.ItemBody: "[]", api.ItemHeader: "[HEADER]", api.ItemText: "[TEXT]"}[kind]
		for _, n := range append(sizes(4096), 0) {
			x := strings.Repeat("\x00\r)\xff\n{1}"+crlf, n/9+1)[:n]
			text := "* 3 FETCH (BODY" + name + " {" + strconv.Itoa(n) + "}" + crlf + x + ")" + crlf
			if n <= 4096 {
				prints(t, fetch(api.Value{Kind: kind, Text: x}), text)
				refuses(t, text[:len(text)-3])
			} else {
				isNone(t, fetch(api.Value{Kind: kind, Text: x}))
				refuses(t, text)
			}
		}
		for b := range 256 {
			c := string([]byte{byte(b)})
			prints(t, fetch(api.Value{Kind: kind, Text: c}), "* 3 FETCH (BODY"+name+" {1}"+crlf+c+")"+crlf)
		}
	}
	full := fetch(slices.Repeat([]api.Value{{Kind: api.ItemBody, Text: strings.Repeat(crlf, 2048)}}, 10)...)
	if text, ok := said(full); ok {
		prints(t, full, text)
	} else {
		t.Error("ten of the greatest bodies")
	}
}

// TestFlagBound: P9.1 and P9.2, a set of at most 16 flags, of at most 32 bytes each.
func TestFlagBound(t *testing.T) {
	for _, n := range []int{1, 15, 16, 17, 18, 1 << 16} {
		var l []string
		for i := range n {
			l = append(l, "k"+strconv.Itoa(1<<20+i))
		}
		flagsAre(t, l, n <= 16)
		flagsAre(t, append([]string{`\Seen`}, l...), n <= 15)
	}
	for _, n := range sizes(32) {
		flagsAre(t, []string{strings.Repeat("k", n)}, n <= 32)
	}
	for b := range 256 {
		c := string([]byte{byte(b)})
		for _, f := range []string{c, c + "a", "a" + c, `\Seen` + c} {
			flagsAre(t, []string{f}, mayFlags([]string{f}))
			flagsAre(t, []string{`\Answered`, f}, mayFlags([]string{`\Answered`, f}))
			flagsAre(t, []string{f, "z"}, mayFlags([]string{f, "z"}))
		}
	}
	for _, l := range [][]string{{""}, {"a", ""}, {"b", "a"}, {"a", "a"}, {"A"}, {"a b"}, {"a) (b"}, {`\seen`}, {`\Seen`, `\Answered`}, {`\Seen`, `\Seen`}, {"a", `\Seen`}, {`\Recent`}, {`\*`}, {`\`}, {"(a)"}, {"é"}} {
		flagsAre(t, l, false)
	}
	for _, l := range [][]string{nil, {}, {"a", "b"}, {`\Seen`, `\Draft`}, {`\Draft`, "!"}, {"seen"}, {"nil"}, {"["}} {
		flagsAre(t, l, true)
	}
}

// flagsAre checks whether flags may stand in a reply and in a value.
func flagsAre(t *testing.T, l []string, may bool) {
	t.Helper()
	list := "(" + strings.Join(l, " ") + ")"
	for r, text := range map[*api.Reply]string{
		{Kind: api.RepFlags, Flags: l}:                                         "* FLAGS " + list + crlf,
		ref(fetch(api.Value{Kind: api.ItemFlags, Flags: l})):                   "* 3 FETCH (FLAGS " + list + ")" + crlf,
		ref(fetch(api.Value{Kind: api.ItemUid}, api.Value{Kind: 6, Flags: l})): "* 3 FETCH (UID 0 FLAGS " + list + ")" + crlf,
	} {
		if may {
			prints(t, *r, text)
		} else {
			isNone(t, *r)
			asks(t, text)
		}
	}
}

// TestBoxBound: P9.1 and P9.2, what layer 4 says of names, in their shortest way.
func TestBoxBound(t *testing.T) {
	names := []string{"", " ", "a ", " a", "a  b", "INBOX", "inbox", "Inbox", "INBO", "INBOXES", "nil", "NIL", "Nil", "nill", "a/b", "{3}", "(a)", "[a]", "a]", "a%", "*", `a"b`, `a\b`, `"a"`, "é", crlf, "a" + crlf, "a\x00", "\x7f"}
	for _, n := range sizes(64) {
		names = append(names, strings.Repeat("a", n), strings.Repeat("(", n), "a"+strings.Repeat(" ", n)+"a", strings.Repeat("a ", n/2)+"b")
	}
	for b := range 256 {
		c := string([]byte{byte(b)})
		names = append(names, c, c+"a", "a"+c, "a"+c+"a", "INBOX"+c)
	}
	for _, name := range names {
		for _, r := range []api.Reply{{Kind: api.RepList, Box: name}, {Kind: api.RepStatus, Box: name, Values: []api.Value{{Kind: api.ItemNext, N: 5}}}} {
			text, ok := said(r)
			if ok {
				prints(t, r, text)
			} else {
				isNone(t, r)
				asks(t, text)
			}
			asks(t, strings.Replace(text, boxText(name), name, 1))
			asks(t, strings.Replace(text, boxText(name), `"`+name+`"`, 1))
			refuses(t, strings.Replace(text, boxText(name), "{"+strconv.Itoa(len(name))+"}"+crlf+name, 1))
		}
	}
}
