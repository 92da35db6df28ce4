package grammar_test

import (
	"math"
	"slices"
	"strings"
	"testing"

	"posthorn/api"
)

// fields is ways to lay something into one field of a command, each of which turns it, wherever that field had nothing.
func fields() map[string]func(c *api.Command) {
	return map[string]func(c *api.Command){
		"Uid":      func(c *api.Command) { c.Uid = true },
		"Cond":     func(c *api.Command) { c.Cond = true },
		"Box":      func(c *api.Command) { c.Box = "y" },
		"User":     func(c *api.Command) { c.User = "y" },
		"Pass":     func(c *api.Command) { c.Pass = "y" },
		"Pattern":  func(c *api.Command) { c.Pattern = "y" },
		"Set":      func(c *api.Command) { c.Set = ranges(1, 1) },
		"Items":    func(c *api.Command) { c.Items = items(api.ItemFlags) },
		"Keys":     func(c *api.Command) { c.Keys = []api.Key{{Kind: api.KeyAnd, Kids: 1}, {Kind: api.KeyAll}} },
		"How":      func(c *api.Command) { c.How = api.FlagsAdd },
		"Silent":   func(c *api.Command) { c.Silent = true },
		"HasSince": func(c *api.Command) { c.HasSince = true },
		"Since":    func(c *api.Command) { c.Since = 1 },
		"Flags":    func(c *api.Command) { c.Flags = []string{"y"} },
		"Data":     func(c *api.Command) { c.Data = "y" },
	}
}

// TestFieldsOfOthers: P8.2, a field that a command's kind doesn't name has its zero value.
func TestFieldsOfOthers(t *testing.T) {
	named := map[int]string{
		api.CmdLogin: "User Pass", api.CmdSelect: "Box Cond", api.CmdExamine: "Box Cond", api.CmdCreate: "Box", api.CmdDelete: "Box", api.CmdList: "Pattern",
		api.CmdStatus: "Box Items", api.CmdAppend: "Box Flags Data", api.CmdSearch: "Uid Keys", api.CmdFetch: "Uid Set Items HasSince", api.CmdStore: "Uid Set HasSince How Silent Flags", api.CmdCopy: "Uid Set Box",
	}
	for _, x := range eachShape() {
		for name, lay := range fields() {
			if slices.Contains(strings.Fields(named[x.c.Kind]), name) || name == "Since" && x.c.HasSince {
				continue
			}
			c := x.c
			lay(&c)
			mayNotBe(t, c)
		}
		c := x.c
		c.Tag = ""
		mayNotBe(t, c)
	}
}

// TestKindsThatAreNone: P8.2.
func TestKindsThatAreNone(t *testing.T) {
	for _, kind := range []int{0, -1, 19, 20, 99, math.MaxInt, math.MinInt} {
		mayNotBe(t, api.Command{Tag: "a", Kind: kind})
		mayNotBe(t, api.Command{Kind: kind})
	}
}

// TestTagsThatMayNotBe: P8.2.
func TestTagsThatMayNotBe(t *testing.T) {
	for _, tag := range []string{"", " ", "+", "a+", "a b", " a", "a ", "a UID", "a NOOP", "*", "é", "a\r\n", strings.Repeat("a", 33), strings.Repeat("a", 1<<20)} {
		for _, x := range eachShape() {
			x.c.Tag = tag
			mayNotBe(t, x.c)
		}
	}
	prints(t, api.Command{Tag: strings.Repeat("a", 32), Kind: api.CmdNoop}, strings.Repeat("a", 32)+" NOOP")
}

// TestItemsThatMayNotBe: P8.2.
func TestItemsThatMayNotBe(t *testing.T) {
	fetch := func(l ...api.Item) api.Command {
		return api.Command{Tag: "a", Kind: api.CmdFetch, Set: ranges(1, 1), Items: l}
	}
	status := func(l ...api.Item) api.Command {
		return api.Command{Tag: "a", Kind: api.CmdStatus, Box: "x", Items: l}
	}
	mayNotBe(t, fetch())
	mayNotBe(t, status())
	var wrongOfFetch, wrongOfStatus []api.Item
	for _, kind := range []int{0, -1, 13, 14, 100, math.MaxInt, math.MinInt} {
		wrongOfFetch = append(wrongOfFetch, api.Item{Kind: kind}, api.Item{Kind: kind, Peek: true})
	}
	wrongOfStatus = append(wrongOfStatus, wrongOfFetch...)
	for kind := 1; kind <= 5; kind++ {
		wrongOfFetch = append(wrongOfFetch, api.Item{Kind: kind})
	}
	for kind := 1; kind <= 12; kind++ {
		with := []api.Item{{Kind: kind, From: 1}, {Kind: kind, Count: 1}, {Kind: kind, From: 1, Count: 1}, {Kind: kind, Part: true}, {Kind: kind, Part: true, From: 5}, {Kind: kind, Part: true, From: 1 << 32, Count: 1}, {Kind: kind, Part: true, Count: 1 << 32}, {Kind: kind, Peek: true, Count: 1}}
		if kind < api.ItemBody {
			with = append(with, api.Item{Kind: kind, Peek: true}, api.Item{Kind: kind, Part: true, Count: 1}, api.Item{Kind: kind, Peek: true, Part: true, From: 1, Count: 1})
		}
		wrongOfFetch = append(wrongOfFetch, with...)
		wrongOfStatus = append(wrongOfStatus, with...)
		if kind > 5 {
			wrongOfStatus = append(wrongOfStatus, api.Item{Kind: kind}, api.Item{Kind: kind, Peek: true}, api.Item{Kind: kind, Part: true, Count: 1})
		}
	}
	for _, x := range wrongOfFetch {
		right := api.Item{Kind: api.ItemUid}
		for _, c := range []api.Command{fetch(x), fetch(x, right), fetch(right, x), fetch(x, x), fetch(right, x, right)} {
			mayNotBe(t, c)
		}
	}
	for _, x := range wrongOfStatus {
		right := api.Item{Kind: api.ItemUnseen}
		for _, c := range []api.Command{status(x), status(x, right), status(right, x), status(x, x), status(right, x, right)} {
			mayNotBe(t, c)
		}
	}
	mayNotBe(t, fetch(make([]api.Item, 1<<20)...))
}

// TestListsThatMayNotBe: P8.2, sets, flags, what is done to them, modification numbers.
func TestListsThatMayNotBe(t *testing.T) {
	for _, l := range [][]api.Range{nil, {}, ranges(1, 1<<32), ranges(1<<32, 1), ranges(1, 1, 1<<63, 1), ranges(math.MaxUint64, 0), make([]api.Range, 65), make([]api.Range, 1<<20)} {
		for _, kind := range []int{api.CmdFetch, api.CmdStore, api.CmdCopy} {
			c := api.Command{Tag: "a", Kind: kind, Set: l}
			switch kind {
			case api.CmdFetch:
				c.Items = items(api.ItemUid)
			case api.CmdCopy:
				c.Box = "x"
			}
			mayNotBe(t, c)
		}
		mayNotBe(t, search(1, api.Key{Kind: api.KeySet, Set: l}))
		mayNotBe(t, search(1, api.Key{Kind: api.KeyUid, Set: l}))
	}
	for _, l := range [][]string{{""}, {"A"}, {`\seen`}, {`\Recent`}, {"b", "a"}, {"a", "a"}, {"a b"}, {"a", "b c"}, {"a", `\Seen`}, {`\Seen`, `\Answered`}, {")"}, {"a)"}, {"a) (b"}, {"*"}, {"é"}, {strings.Repeat("a", 33)}, make([]string, 1<<20), {"a", ""}} {
		mayNotBe(t, api.Command{Tag: "a", Kind: api.CmdStore, Set: ranges(1, 1), Flags: l})
		mayNotBe(t, api.Command{Tag: "a", Kind: api.CmdAppend, Box: "x", Flags: l})
	}
	for _, how := range []int{-1, 3, 4, 100, math.MaxInt, math.MinInt} {
		mayNotBe(t, api.Command{Tag: "a", Kind: api.CmdStore, Set: ranges(1, 1), How: how})
	}
}

// TestKeysThatMayNotBe: P8.2, of single nodes.
func TestKeysThatMayNotBe(t *testing.T) {
	for kind := -1; kind <= 15; kind++ {
		right := api.Key{Kind: kind}
		switch kind {
		case api.KeySet, api.KeyUid:
			right.Set = ranges(1, 2)
		case api.KeyFlag:
			right.Field = "a"
		case api.KeyHeader:
			right.Field = "a"
		}
		named := map[int]string{api.KeyAnd: "Kids", api.KeySet: "Set", api.KeyUid: "Set", api.KeyFlag: "Field N", api.KeyLarger: "N", api.KeySmaller: "N", api.KeyModseq: "N", api.KeyText: "Text", api.KeyBody: "Text", api.KeyHeader: "Field Text"}
		for name, lay := range map[string]func(k *api.Key){
			"Kids": func(k *api.Key) { k.Kids = 1 }, "Less": func(k *api.Key) { k.Kids = -1 }, "Field": func(k *api.Key) { k.Field = "y" }, "Text": func(k *api.Key) { k.Text = "y" }, "N": func(k *api.Key) { k.N = 1 }, "Set": func(k *api.Key) { k.Set = ranges(1, 1) },
		} {
			k := right
			lay(&k)
			if strings.Contains(" "+named[kind]+" ", " "+name+" ") && kind >= 1 && kind <= 13 {
				continue
			}
			all := api.Key{Kind: api.KeyAll}
			mayNotBe(t, search(1, k))
			mayNotBe(t, search(1, k, all))
			mayNotBe(t, search(1, k, all, all))
			mayNotBe(t, search(2, k, all))
			mayNotBe(t, search(2, k, all, all))
			mayNotBe(t, search(3, all, k, all))
		}
	}
	for _, k := range []api.Key{
		{}, {Kind: 14}, {Kind: math.MaxInt}, {Kind: math.MinInt},
		{Kind: api.KeyFlag}, {Kind: api.KeyFlag, N: 1}, {Kind: api.KeyFlag, Field: "a", N: 2}, {Kind: api.KeyFlag, Field: `\Seen`, N: 2}, {Kind: api.KeyFlag, Field: `\Seen`, N: math.MaxUint64}, {Kind: api.KeyFlag, Field: `\seen`, N: 1}, {Kind: api.KeyFlag, Field: `\SEEN`}, {Kind: api.KeyFlag, Field: `\`}, {Kind: api.KeyFlag, Field: `\Recent`}, {Kind: api.KeyFlag, Field: `\All`, N: 1}, {Kind: api.KeyFlag, Field: `\ALL`, N: 1}, {Kind: api.KeyFlag, Field: `\Keyword a`, N: 1}, {Kind: api.KeyFlag, Field: `\1`, N: 1}, {Kind: api.KeyFlag, Field: `\Seen `, N: 1}, {Kind: api.KeyFlag, Field: "A", N: 1}, {Kind: api.KeyFlag, Field: "a b", N: 1}, {Kind: api.KeyFlag, Field: "a ALL", N: 1}, {Kind: api.KeyFlag, Field: "a)"},
		{Kind: api.KeyHeader}, {Kind: api.KeyHeader, Text: "x"}, {Kind: api.KeyHeader, Field: "A"}, {Kind: api.KeyHeader, Field: "a:"}, {Kind: api.KeyHeader, Field: "a b"}, {Kind: api.KeyHeader, Field: "Subject", Text: "x"}, {Kind: api.KeyHeader, Field: "é"}, {Kind: api.KeyHeader, Field: strings.Repeat("a", 33)},
		{Kind: api.KeyLarger, N: 1 << 63}, {Kind: api.KeySmaller, N: 1 << 63}, {Kind: api.KeyModseq, N: math.MaxUint64},
		{Kind: api.KeySet}, {Kind: api.KeyUid}, {Kind: api.KeyUid, Set: ranges(1<<32, 1)},
	} {
		mayNotBe(t, search(1, k))
		mayNotBe(t, search(2, k, api.Key{Kind: api.KeyAll}))
		mayNotBe(t, search(2, api.Key{Kind: api.KeyAll}, k))
		mayNotBe(t, search(1, api.Key{Kind: api.KeyNot}, k))
		mayNotBe(t, search(1, api.Key{Kind: api.KeyAnd, Kids: 1}, k))
	}
}

// TestTreesThatMayNotBe: P8.2, all short rows of nodes, by another road: those that are one KeyAnd with all its kids.
func TestTreesThatMayNotBe(t *testing.T) {
	nodes := []api.Key{{Kind: api.KeyAnd}, {Kind: api.KeyAnd, Kids: 1}, {Kind: api.KeyAnd, Kids: 2}, {Kind: api.KeyAnd, Kids: 3}, {Kind: api.KeyNot}, {Kind: api.KeyOr}, {Kind: api.KeyAll}}
	names := []string{"(0", "(1", "(2", "(3", "NOT", "OR", "ALL"}
	// skip tells the text of the key with which a row begins, and how many nodes it has; 0 of none.
	var skip func(row []int) (string, int)
	kids := func(row []int, n int) (string, int) {
		var texts []string
		at := 0
		for range n {
			text, more := skip(row[at:])
			if more == 0 {
				return "", 0
			}
			texts, at = append(texts, text), at+more
		}
		return strings.Join(texts, " "), at
	}
	skip = func(row []int) (string, int) {
		if len(row) == 0 || row[0] == 0 {
			return "", 0
		}
		want := []int{0, 1, 2, 3, 1, 2, 0}[row[0]]
		text, n := kids(row[1:], want)
		switch {
		case want == 0:
			return "ALL", 1
		case n == 0:
			return "", 0
		case row[0] <= 3:
			return "(" + text + ")", n + 1
		}
		return names[row[0]] + " " + text, n + 1
	}
	var right int
	var ask func(row []int, left int)
	ask = func(row []int, left int) {
		c := api.Command{Tag: "a", Kind: api.CmdSearch}
		for _, n := range row {
			c.Keys = append(c.Keys, nodes[n])
		}
		text, n := skip(row)
		if n > 0 && n == len(row) && row[0] <= 3 {
			prints(t, c, "a SEARCH "+text[1:len(text)-1])
			right++
		} else {
			mayNotBe(t, c)
		}
		if t.Failed() {
			return
		}
		for n := range nodes {
			if left > 0 {
				ask(append(row[:len(row):len(row)], n), left-1)
			}
		}
	}
	ask(nil, 5)
	if right < 50 {
		t.Errorf("%d right ones", right)
	}
	for _, kids := range []int{math.MaxInt, math.MinInt, -1, 32, 1 << 40} {
		mayNotBe(t, search(kids, api.Key{Kind: api.KeyAll}))
		mayNotBe(t, search(1, api.Key{Kind: api.KeyAnd, Kids: kids}, api.Key{Kind: api.KeyAll}))
		c := search(kids)
		for range 31 {
			c.Keys = append(c.Keys, api.Key{Kind: api.KeyAnd, Kids: kids})
		}
		mayNotBe(t, c)
	}
}
