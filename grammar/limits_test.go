package grammar_test

import (
	"reflect"
	"strconv"
	"strings"
	"testing"
	"unsafe"

	"posthorn/api"
	"posthorn/grammar"
)

const atomBytes = "!#$&'+,-./0123456789:;<=>?@ABCDEFGHIJKLMNOPQRSTUVWXYZ[^_`abcdefghijklmnopqrstuvwxyz|}~"

// literal is a text as a literal.
func literal(s string) string { return "{" + strconv.Itoa(len(s)) + "}" + crlf + s }

// pass is a LOGIN of x with that password.
func pass(s string) api.Command {
	return api.Command{Tag: "a", Kind: api.CmdLogin, User: "x", Pass: s}
}

// TestAstringBound: P8.1 and P8.2, at most 4096 bytes of an atom and of a literal, 512 of a quoted text.
func TestAstringBound(t *testing.T) {
	if api.MaxLiteral != 4096 || api.MaxQuoted != 512 {
		t.Error("the limits")
	}
	for _, n := range []int{1, 511, 512, 513, 514, 1000, 4095, 4096} {
		s := strings.Repeat("y", n)
		parses(t, "a LOGIN x "+s, pass(s))
		parses(t, "a LOGIN x "+literal(s), pass(s))
		parses(t, "a LOGIN "+s+" "+literal(s), api.Command{Tag: "a", Kind: api.CmdLogin, User: s, Pass: s})
		blanks := strings.Repeat(" ", n)
		marks := strings.Repeat(`"`, n)
		parses(t, "a LOGIN x "+literal(blanks), pass(blanks))
		if n <= 512 {
			prints(t, pass(s), "a LOGIN x "+s)
			prints(t, pass(blanks), `a LOGIN x "`+blanks+`"`)
			prints(t, pass(marks), `a LOGIN x "`+strings.Repeat(`\"`, n)+`"`)
			parses(t, `a LOGIN x "`+s+`"`, pass(s))
		} else {
			prints(t, pass(s), "a LOGIN x "+literal(s))
			prints(t, pass(blanks), "a LOGIN x "+literal(blanks))
			prints(t, pass(marks), "a LOGIN x "+literal(marks))
			refuses(t, `a LOGIN x "`+s+`"`, api.ErrForm)
			refuses(t, `a LOGIN x "`+strings.Repeat(`\"`, n)+`"`, api.ErrForm)
		}
	}
	for _, n := range []int{4097, 8192, 1 << 20} {
		s := strings.Repeat("y", n)
		for _, text := range []string{s, literal(s), `"` + s + `"`} {
			refuses(t, "a LOGIN x "+text, api.ErrForm)
			refuses(t, "a LOGIN "+text+" x", api.ErrForm)
			refuses(t, "a SEARCH TEXT "+text, api.ErrForm)
		}
		mayNotBe(t, pass(s))
		mayNotBe(t, api.Command{Tag: "a", Kind: api.CmdLogin, User: s})
		mayNotBe(t, search(1, api.Key{Kind: api.KeyBody, Text: s}))
	}
}

// TestAstringOfEachByte: P8.1 and P8.2, a text's bytes by all ways to say it.
func TestAstringOfEachByte(t *testing.T) {
	for b := range 256 {
		s := string([]byte{byte(b)})
		inAtom := strings.Contains(atomBytes, s)
		quotable := b > 0 && b < 0x80 && s != "\r" && s != "\n"
		quoted := `"` + strings.NewReplacer(`"`, `\"`, `\`, `\\`).Replace("y"+s+"z") + `"`
		c := pass("y" + s + "z")
		parses(t, "a LOGIN x "+literal("y"+s+"z"), c)
		switch {
		case inAtom:
			prints(t, c, "a LOGIN x y"+s+"z")
			parses(t, "a LOGIN x "+quoted, c)
			parses(t, "a LOGIN x "+s, pass(s))
		case quotable:
			prints(t, c, "a LOGIN x "+quoted)
			refuses(t, "a LOGIN x y"+s+"z", api.ErrForm)
			refuses(t, "a LOGIN x "+s, api.ErrForm)
		default:
			prints(t, c, "a LOGIN x "+literal("y"+s+"z"))
			refuses(t, "a LOGIN x "+quoted, api.ErrForm)
			refuses(t, "a LOGIN x y"+s+"z", api.ErrForm)
			refuses(t, "a LOGIN x "+s, api.ErrForm)
		}
	}
}

// TestPatternBound: P8.1 and P8.2: no limit stands for a pattern without quotation marks, but for any other.
func TestPatternBound(t *testing.T) {
	list := func(s string) api.Command { return api.Command{Tag: "a", Kind: api.CmdList, Pattern: s} }
	for _, n := range []int{512, 513, 4096, 4097, 10000} {
		for _, c := range []string{"x", "%", "*"} {
			s := strings.Repeat(c, n)
			prints(t, list(s), `a LIST "" `+s)
			if n > 4096 {
				refuses(t, `a LIST "" `+literal(s), api.ErrForm)
			} else {
				parses(t, `a LIST "" `+literal(s), list(s))
			}
			if n > 512 {
				refuses(t, `a LIST "" "`+s+`"`, api.ErrForm)
			}
		}
		s := strings.Repeat(" ", n)
		switch {
		case n <= 512:
			prints(t, list(s), `a LIST "" "`+s+`"`)
		case n <= 4096:
			prints(t, list(s), `a LIST "" `+literal(s))
		default:
			mayNotBe(t, list(s))
			mayNotBe(t, list(s+"*"))
			refuses(t, `a LIST "" `+literal(s), api.ErrForm)
		}
	}
	for _, s := range []string{"NIL", "nil", "Nil", "niL"} {
		prints(t, list(s), `a LIST "" "`+s+`"`)
		prints(t, list(s+"*"), `a LIST "" `+s+"*")
		prints(t, list("%"+s), `a LIST "" %`+s)
		prints(t, list(s+s), `a LIST "" `+s+s)
	}
}

// TestPatternOfEachByte: P8.1 and P8.2, without quotation marks and otherwise.
func TestPatternOfEachByte(t *testing.T) {
	for b := range 256 {
		s := string([]byte{byte(b)})
		for _, p := range []string{s, "x" + s, s + "*", "%" + s + "x"} {
			c := api.Command{Tag: "a", Kind: api.CmdList, Pattern: p}
			bare := strings.Contains(atomBytes+"%*", s)
			if bare {
				prints(t, c, `a LIST "" `+p)
			} else if p != `"x` {
				refuses(t, `a LIST "" `+p, api.ErrForm)
			}
			parses(t, `a LIST "" `+literal(p), c)
			if b > 0 && b < 0x80 && s != "\r" && s != "\n" {
				quoted := `"` + strings.NewReplacer(`"`, `\"`, `\`, `\\`).Replace(p) + `"`
				parses(t, `a LIST "" `+quoted, c)
				if !bare {
					prints(t, c, `a LIST "" `+quoted)
				}
			} else {
				prints(t, c, `a LIST "" `+literal(p))
			}
		}
	}
}

// TestBoxes: P8.1 and P8.2, what layer 4 says of names, wherever they stand.
func TestBoxes(t *testing.T) {
	for _, x := range []struct{ ahead, behind string }{{"SELECT", ""}, {"EXAMINE", " (CONDSTORE)"}, {"CREATE", ""}, {"DELETE", ""}, {"STATUS", " (UNSEEN)"}, {"APPEND", " {0}" + crlf}, {"COPY 1", ""}} {
		for name, want := range map[string]string{"inbox": "INBOX", "InBoX": "INBOX", "inboxes": "inboxes", strings.Repeat("x", 64): strings.Repeat("x", 64), "nil": "nil"} {
			for _, text := range []string{name, `"` + name + `"`, literal(name)} {
				c, e := grammar.Parse("a " + x.ahead + " " + text + x.behind)
				if e != api.OK || c.Box != want {
					t.Errorf("%s %s: %q, %d", x.ahead, text, c.Box, e)
				}
				form := want
				if want == "nil" {
					form = `"nil"`
				}
				prints(t, c, "a "+x.ahead+" "+form+x.behind)
				if want != name {
					c.Box = name
					mayNotBe(t, c)
				}
				for _, s := range []string{"", " a", "a ", "a%", "*", `a"b`, `a\b`, "a\x7f", "é", strings.Repeat("x", 65)} {
					c.Box = s
					mayNotBe(t, c)
					refuses(t, "a "+x.ahead+" "+literal(s)+x.behind, api.ErrForm)
				}
			}
		}
		for b := range 256 {
			s := "a" + string([]byte{byte(b)}) + "b"
			if b >= 0x20 && b < 0x7f && !strings.Contains(`%*"\`, s[1:2]) {
				if c, e := grammar.Parse("a " + x.ahead + " " + literal(s) + x.behind); e != api.OK || c.Box != s {
					t.Errorf("%s %q: %q, %d", x.ahead, s, c.Box, e)
				}
			} else {
				refuses(t, "a "+x.ahead+" "+literal(s)+x.behind, api.ErrForm)
			}
		}
	}
}

// TestItemBound: P8.1 and P8.2, at most 8 of a FETCH and of a STATUS.
func TestItemBound(t *testing.T) {
	for n := 1; n <= 20; n++ {
		fetch := api.Command{Tag: "a", Kind: api.CmdFetch, Set: ranges(1, 1)}
		status := api.Command{Tag: "a", Kind: api.CmdStatus, Box: "x"}
		var fetched, told []string
		for i := range n {
			fetch.Items = append(fetch.Items, api.Item{Kind: api.ItemBody, Part: true, Count: uint64(i + 1)})
			fetched = append(fetched, "BODY[]<0."+strconv.Itoa(i+1)+">")
			status.Items = append(status.Items, api.Item{Kind: i%5 + 1})
			told = append(told, []string{"MESSAGES", "UIDNEXT", "UIDVALIDITY", "UNSEEN", "HIGHESTMODSEQ"}[i%5])
		}
		fetchText, statusText := "a FETCH 1 ("+strings.Join(fetched, " ")+")", "a STATUS x ("+strings.Join(told, " ")+")"
		switch {
		case n > 8:
			refuses(t, fetchText, api.ErrForm)
			refuses(t, statusText, api.ErrForm)
			mayNotBe(t, fetch)
			mayNotBe(t, status)
			continue
		case n == 1:
			parses(t, fetchText, fetch)
			fetchText = "a FETCH 1 " + fetched[0]
		}
		prints(t, fetch, fetchText)
		prints(t, status, statusText)
	}
}

// TestNumberBounds: P8.1 and P8.2, of parts of bodies, of modification numbers, of sizes.
func TestNumberBounds(t *testing.T) {
	for _, n := range []uint64{0, 1, 9, 10, 1<<31 - 1, 1 << 31, 1<<32 - 1, 1 << 32, 1<<32 + 1, 1<<63 - 1, 1 << 63, 1<<64 - 1} {
		s := strconv.FormatUint(n, 10)
		from := api.Command{Tag: "a", Kind: api.CmdFetch, Set: ranges(1, 1), Items: []api.Item{{Kind: api.ItemText, Part: true, From: n, Count: 1}}}
		count := api.Command{Tag: "a", Kind: api.CmdFetch, Set: ranges(1, 1), Items: []api.Item{{Kind: api.ItemText, Part: true, Count: n}}}
		fetch := api.Command{Tag: "a", Kind: api.CmdFetch, Set: ranges(1, 1), Items: items(api.ItemFlags), HasSince: true, Since: n}
		store := api.Command{Tag: "a", Kind: api.CmdStore, Set: ranges(1, 1), HasSince: true, Since: n}
		for _, x := range []struct {
			text string
			c    api.Command
			may  bool
		}{
			{"a FETCH 1 BODY[TEXT]<" + s + ".1>", from, n < 1<<32},
			{"a FETCH 1 BODY[TEXT]<0." + s + ">", count, n > 0 && n < 1<<32},
			{"a FETCH 1 FLAGS (CHANGEDSINCE " + s + ")", fetch, n < 1<<63},
			{"a STORE 1 (UNCHANGEDSINCE " + s + ") FLAGS ()", store, n < 1<<63},
			{"a SEARCH LARGER " + s, search(1, api.Key{Kind: api.KeyLarger, N: n}), n < 1<<63},
			{"a SEARCH SMALLER " + s, search(1, api.Key{Kind: api.KeySmaller, N: n}), n < 1<<63},
			{"a SEARCH MODSEQ " + s, search(1, api.Key{Kind: api.KeyModseq, N: n}), n < 1<<63},
		} {
			if x.may {
				prints(t, x.c, x.text)
			} else {
				refuses(t, x.text, api.ErrForm)
				mayNotBe(t, x.c)
			}
		}
		copied := api.Command{Tag: "a", Kind: api.CmdCopy, Set: ranges(7, n), Box: "x"} // 0 stands for *
		if n < 1<<32 && n > 0 {
			prints(t, copied, "a COPY 7:"+s+" x")
			continue
		}
		refuses(t, "a COPY 7:"+s+" x", api.ErrForm)
		if n > 0 {
			mayNotBe(t, copied)
		}
	}
}

// TestSetBound: P8.1 and P8.2, at most 64 ranges, wherever sets stand.
func TestSetBound(t *testing.T) {
	for n := 62; n <= 66; n++ {
		l := ranges(1, 2)
		for len(l) < n {
			l = append(l, l[0])
		}
		text := strings.Repeat("1:2,", n-1) + "1:2"
		for _, x := range []one{
			{"a FETCH " + text + " FLAGS", api.Command{Tag: "a", Kind: api.CmdFetch, Set: l, Items: items(api.ItemFlags)}},
			{"a STORE " + text + " FLAGS ()", api.Command{Tag: "a", Kind: api.CmdStore, Set: l}},
			{"a COPY " + text + " x", api.Command{Tag: "a", Kind: api.CmdCopy, Set: l, Box: "x"}},
			{"a SEARCH " + text, search(1, api.Key{Kind: api.KeySet, Set: l})},
			{"a SEARCH UID " + text, search(1, api.Key{Kind: api.KeyUid, Set: l})},
		} {
			if n <= 64 {
				prints(t, x.c, x.text)
			} else {
				refuses(t, x.text, api.ErrForm)
				mayNotBe(t, x.c)
			}
		}
	}
}

// TestFlagBound: P8.1 and P8.2, at most 16 flags, each counted once; of more there is no list.
func TestFlagBound(t *testing.T) {
	var l []string
	for i := range 20 {
		l = append(l, string(rune('a'+i)))
		text := "(" + strings.Join(l, " ") + ")"
		twice := "(" + strings.Join(append(l, l...), " ") + ")"
		for _, x := range []struct {
			ahead, behind string
			c             api.Command
		}{
			{"a STORE 1 FLAGS ", "", api.Command{Tag: "a", Kind: api.CmdStore, Set: ranges(1, 1), Flags: l}},
			{"a APPEND x ", " " + literal("y"), api.Command{Tag: "a", Kind: api.CmdAppend, Box: "x", Data: "y", Flags: l}},
		} {
			if len(l) <= 16 {
				prints(t, x.c, x.ahead+text+x.behind)
				parses(t, x.ahead+twice+x.behind, x.c)
			} else {
				refuses(t, x.ahead+text+x.behind, api.ErrForm)
				mayNotBe(t, x.c)
			}
		}
	}
}

// TestDataBound: P8.1 and P8.2, at most 4096 bytes of a message, any bytes.
func TestDataBound(t *testing.T) {
	for _, n := range []int{0, 1, 9, 10, 512, 513, 4095, 4096, 4097, 8192, 1 << 20} {
		for _, of := range []string{"y", "\x00", "\xff", "\n", ")"} {
			c := api.Command{Tag: "a", Kind: api.CmdAppend, Box: "x", Data: strings.Repeat(of, n)}
			if n <= 4096 {
				prints(t, c, "a APPEND x "+literal(c.Data))
				refuses(t, "a APPEND x "+literal(c.Data)+of, api.ErrForm)
			} else {
				refuses(t, "a APPEND x "+literal(c.Data), api.ErrForm)
				mayNotBe(t, c)
			}
		}
	}
}

// TestKeywordBound: P8.1 and P8.2, an atom of at most 32 bytes, kept in small letters.
func TestKeywordBound(t *testing.T) {
	for n := 1; n <= 40; n++ {
		s := strings.Repeat("k", n)
		c := search(1, api.Key{Kind: api.KeyFlag, Field: s, N: 1})
		if n <= 32 {
			prints(t, c, "a SEARCH KEYWORD "+s)
			parses(t, "a SEARCH KEYWORD "+strings.ToUpper(s), c)
		} else {
			refuses(t, "a SEARCH KEYWORD "+s, api.ErrForm)
			mayNotBe(t, c)
		}
	}
	for b := range 256 {
		s := "k" + string([]byte{byte(b)}) + "k"
		c := search(1, api.Key{Kind: api.KeyFlag, Field: s})
		switch {
		case b >= 'A' && b <= 'Z':
			mayNotBe(t, c)
			c.Keys[1].Field = strings.ToLower(s)
			parses(t, "a SEARCH UNKEYWORD "+s, c)
		case strings.Contains(atomBytes, s[1:2]):
			prints(t, c, "a SEARCH UNKEYWORD "+s)
		default:
			refuses(t, "a SEARCH UNKEYWORD "+s, api.ErrForm)
			mayNotBe(t, c)
		}
	}
}

// TestFieldBound: P8.1 and P8.2, a field's name of 1 to 32 bytes from 21 to 7E, but colons, kept in small letters.
func TestFieldBound(t *testing.T) {
	for n := range 40 {
		s := strings.Repeat("f", n)
		c := search(1, api.Key{Kind: api.KeyHeader, Field: s, Text: "x"})
		switch {
		case n == 0 || n > 32:
			refuses(t, `a SEARCH HEADER "`+s+`" x`, api.ErrForm)
			refuses(t, `a SEARCH HEADER `+literal(s)+` x`, api.ErrForm)
			mayNotBe(t, c)
		default:
			prints(t, c, "a SEARCH HEADER "+s+" x")
			parses(t, "a SEARCH HEADER "+strings.ToUpper(s)+" x", c)
		}
	}
	for b := range 256 {
		s := "f" + string([]byte{byte(b)}) + "f"
		c := search(1, api.Key{Kind: api.KeyHeader, Field: s, Text: "x"})
		switch {
		case b >= 'A' && b <= 'Z':
			mayNotBe(t, c)
			c.Keys[1].Field = strings.ToLower(s)
			for _, text := range []string{s, `"` + s + `"`, literal(s)} {
				parses(t, "a SEARCH HEADER "+text+" x", c)
			}
		case b > 0x20 && b < 0x7f && b != ':':
			parses(t, "a SEARCH HEADER "+literal(s)+" x", c)
			if strings.Contains(atomBytes, s[1:2]) {
				prints(t, c, "a SEARCH HEADER "+s+" x")
			} else {
				prints(t, c, `a SEARCH HEADER "`+strings.NewReplacer(`"`, `\"`, `\`, `\\`).Replace(s)+`" x`)
			}
		default:
			refuses(t, "a SEARCH HEADER "+literal(s)+" x", api.ErrForm)
			mayNotBe(t, c)
		}
	}
}

// TestKeyBound: P8.1 and P8.2, at most 32 nodes, the first one among them.
func TestKeyBound(t *testing.T) {
	all, not, and := api.Key{Kind: api.KeyAll}, api.Key{Kind: api.KeyNot}, api.Key{Kind: api.KeyAnd, Kids: 1}
	for n := 1; n <= 40; n++ {
		flat, inner := search(n), search(1, api.Key{Kind: api.KeyAnd, Kids: n})
		nots, ands := search(n), search(n)
		for range n {
			flat.Keys = append(flat.Keys, all)
			inner.Keys = append(inner.Keys, all)
			nots.Keys = append(nots.Keys, not, all)
			ands.Keys = append(ands.Keys, and, all)
		}
		for _, x := range []one{
			{"a SEARCH" + strings.Repeat(" ALL", n), flat},
			{"a SEARCH (ALL" + strings.Repeat(" ALL", n-1) + ")", inner},
			{"a SEARCH" + strings.Repeat(" NOT ALL", n), nots},
			{"a SEARCH" + strings.Repeat(" (ALL)", n), ands},
		} {
			if len(x.c.Keys) <= 32 {
				prints(t, x.c, x.text)
			} else {
				refuses(t, x.text, api.ErrForm)
				mayNotBe(t, x.c)
			}
		}
	}
	// One OR has three nodes: 10 of them and the first one are 31, one node more is the last that may be.
	text := "a SEARCH" + strings.Repeat(" OR 1 2", 10)
	if c, e := grammar.Parse(text + " 3"); e != api.OK || len(c.Keys) != 32 {
		t.Errorf("%d nodes, %d", len(c.Keys), e)
	}
	refuses(t, text+" 3 4", api.ErrForm)
	refuses(t, text+" NOT 3", api.ErrForm)
	refuses(t, text+" (3)", api.ErrForm)
	refuses(t, text+" OR 3 4", api.ErrForm)
}

// TestNestBound: P8.1 and P8.2, at most 8 of AND, NOT and OR in one another, the first one counted.
func TestNestBound(t *testing.T) {
	for mask := range 3 * 3 * 3 {
		for n := range 12 {
			c := search(1)
			ahead, behind := "a SEARCH ", ""
			for i, m := 0, mask; i < n; i, m = i+1, m/3+m%3*9 {
				switch m % 3 {
				case 0:
					c.Keys = append(c.Keys, api.Key{Kind: api.KeyAnd, Kids: 1})
					ahead, behind = ahead+"(", ")"+behind
				case 1:
					c.Keys = append(c.Keys, api.Key{Kind: api.KeyNot})
					ahead += "NOT "
				case 2: // what stands within is its second kid
					c.Keys = append(c.Keys, api.Key{Kind: api.KeyOr}, api.Key{Kind: api.KeyAll})
					ahead += "OR ALL "
				}
			}
			c.Keys = append(c.Keys, api.Key{Kind: api.KeyAll})
			if n <= 7 {
				prints(t, c, ahead+"ALL"+behind)
			} else {
				refuses(t, ahead+"ALL"+behind, api.ErrForm)
				mayNotBe(t, c)
			}
		}
	}
	for _, s := range []string{"NOT ", "(", "OR ", "OR 1 ", "NOT ("} {
		refuses(t, "a SEARCH "+strings.Repeat(s, 1<<18), api.ErrForm)
		refuses(t, "a SEARCH "+strings.Repeat(s, 1<<18)+"ALL"+strings.Repeat(")", 1<<18), api.ErrForm)
	}
	c := search(1)
	for range 1 << 20 {
		c.Keys = append(c.Keys, api.Key{Kind: api.KeyNot})
	}
	mayNotBe(t, c)
	// Where the first kid of an OR ends, what stood in one another is over.
	prints(t, search(2, api.Key{Kind: api.KeyOr}, api.Key{Kind: api.KeyNot}, api.Key{Kind: api.KeyAll}, api.Key{Kind: api.KeyAll}, api.Key{Kind: api.KeyAll}), "a SEARCH OR NOT ALL ALL ALL")
	deep := strings.Repeat("NOT ", 7) + "ALL"
	flat := "NOT (OR " + strings.Repeat("NOT ", 4) + "ALL " + strings.Repeat("NOT ", 4) + "ALL)"
	for _, s := range []string{deep + " " + deep, deep + " " + deep + " " + deep, flat + " " + deep} {
		if text, e := grammar.Print(must(t, "a SEARCH "+s)); text != "a SEARCH "+s || e != api.OK {
			t.Errorf("%s is printed %s", s, text)
		}
	}
	refuses(t, "a SEARCH "+flat+" NOT "+deep, api.ErrForm)
	refuses(t, "a SEARCH NOT "+flat+" "+deep+" ALL NOT "+deep, api.ErrForm)
}

// must is a command of which there is no doubt.
func must(t *testing.T, s string) api.Command {
	t.Helper()
	c, e := grammar.Parse(s)
	if e != api.OK {
		t.Fatalf("Parse(%q): %d", short(s), e)
	}
	return c
}

// TestKeepsNone: what is told has memory of its own: that of what was handed in may hold other bytes later.
func TestKeepsNone(t *testing.T) {
	texts := []string{"horn FOO", "horn NOOP x", `horn LOGIN "a b" Pass`, `horn SEARCH HEADER Xx-yy Zz KEYWORD work KEYWORD Work HEADER xx-yy zz HEADER {2}` + crlf + "ab {2}" + crlf + "cd 1:2 UID 3", `horn LIST "" a/*`, `horn LIST "" {2}` + crlf + "a*", "horn FETCH 1,2 (FLAGS UID)", `horn STORE 1 FLAGS (\seen work \Draft)`}
	for _, x := range eachShape() {
		texts = append(texts, x.text)
	}
	for _, s := range texts {
		b := []byte(s)
		in := unsafe.String(&b[0], len(b))
		c, e := grammar.Parse(in)
		if in != s {
			t.Errorf("Parse turned %q into %q", s, in)
		}
		want, _ := grammar.Parse(s)
		clear(b)
		if !alike(c, want) {
			t.Errorf("Parse(%q): %d, became %+v", s, e, c)
		}
	}
}

// roomy is a list with room to spare, which holds x.
func roomy[T any](l []T, x T) []T {
	return append(append([]T(nil), l...), x, x, x)[:len(l)]
}

// spares says whether a list still has that room, and x in it.
func spares[T any](l []T, x T) bool {
	for _, y := range l[len(l) : len(l)+3] {
		if !reflect.DeepEqual(x, y) {
			return false
		}
	}
	return true
}

// TestTurnsNone: P8.2, what is handed in stays, spare room included.
func TestTurnsNone(t *testing.T) {
	set, item, key, f := api.Range{From: 77}, api.Item{Kind: 77}, api.Key{Kids: 77}, "77"
	for _, x := range eachShape() {
		c := x.c
		c.Set, c.Items, c.Keys, c.Flags = roomy(c.Set, set), roomy(c.Items, item), roomy(c.Keys, key), roomy(c.Flags, f)
		for i := range c.Keys {
			c.Keys[i].Set = roomy(c.Keys[i].Set, set)
		}
		prints(t, c, x.text)
		stays := alike(c, x.c) && spares(c.Set, set) && spares(c.Items, item) && spares(c.Keys, key) && spares(c.Flags, f)
		for _, k := range c.Keys {
			stays = stays && spares(k.Set, set)
		}
		if !stays {
			t.Errorf("Print turned %+v into %+v", x.c, c)
		}
	}
}

// TestOwnLists: two answers, and the lists of one, share no memory.
func TestOwnLists(t *testing.T) {
	s := "a SEARCH 1:2 UID 1:2 1:2 (2:3 NOT 4)"
	a, b := must(t, s), must(t, s)
	for i := range a.Keys {
		for j := range a.Keys[i].Set[:cap(a.Keys[i].Set)] {
			a.Keys[i].Set[:cap(a.Keys[i].Set)][j] = api.Range{From: 5, To: uint64(i + 6)}
		}
	}
	for i, k := range a.Keys {
		for _, r := range k.Set {
			if r.To != uint64(i+6) {
				t.Errorf("%+v", a.Keys)
			}
		}
	}
	if c := must(t, s); !alike(b, c) {
		t.Errorf("%+v became %+v", c, b)
	}
}
