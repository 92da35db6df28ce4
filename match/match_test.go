package match_test

import (
	"slices"
	"testing"

	"posthorn/api"
	"posthorn/grammar"
	"posthorn/match"
)

const crlf = "\r\n"

var (
	not = api.Key{Kind: api.KeyNot}
	or  = api.Key{Kind: api.KeyOr}
	yes = api.Key{Kind: api.KeyAll}
	no  = api.Key{Kind: api.KeySmaller} // no letter has less than no bytes
)

func and(n int) api.Key { return api.Key{Kind: api.KeyAnd, Kids: n} }

// keys is a list of nodes.
func keys(l ...api.Key) []api.Key { return l }

// meant is a letter as Match is handed it.
type meant struct {
	x  api.Letter
	at api.Place
	m  string
}

// horn is the letter of the document's examples.
func horn() meant {
	return meant{
		x:  api.Letter{Uid: 7, Flags: []string{`\Seen`}, Mod: 9, Size: 30},
		at: api.Place{Seq: 2, MostSeq: 5, MostUid: 8},
		m:  "Subject: Hi" + crlf + crlf + "you",
	}
}

// ahead is the first nodes of a list, enough to tell it by.
func ahead(l []api.Key) []api.Key { return l[:min(len(l), api.MaxKeys+1)] }

// says checks what keys say of a letter.
func says(t *testing.T, l []api.Key, y meant, want bool) {
	t.Helper()
	if got := match.Match(l, y.x, y.at, y.m); got != want {
		t.Errorf("Match(%v, %v, %v, %.80q) = %t", ahead(l), y.x, y.at, y.m, got)
	}
}

// whole checks whether keys are whole; those that aren't say false of all letters.
func whole(t *testing.T, l []api.Key, want bool) {
	t.Helper()
	if got := match.Whole(l); got != want {
		t.Errorf("Whole(%v of %d nodes) = %t", ahead(l), len(l), got)
	}
	if !want {
		says(t, l, horn(), false)
		says(t, l, meant{}, false)
	}
}

// search is the keys of a SEARCH.
func search(t *testing.T, s string) []api.Key {
	t.Helper()
	c, e := grammar.Parse("s SEARCH " + s)
	if e != api.OK {
		t.Fatalf("SEARCH %s: %d", s, e)
	}
	return c.Keys
}

// TestExamples: what the document has as examples, and others like them, as a client would say them.
func TestExamples(t *testing.T) {
	for s, want := range map[string]bool{
		"UNSEEN":                              false,
		"NOT UNSEEN":                          true,
		"2:3 UID 7:*":                         true,
		"SUBJECT hI":                          true,
		"BODY hi":                             false,
		"OR MODSEQ 10 LARGER 29":              true,
		"SEEN":                                true,
		"3 UID 7":                             false,
		"2 UID 8":                             false,
		"*":                                   false,
		"2:*":                                 true,
		"UID *":                               false,
		"UID *:5":                             true,
		"TEXT hi":                             true,
		"TEXT YOU":                            true,
		"BODY You":                            true,
		"FROM you":                            false,
		"NOT FROM you":                        true,
		`SUBJECT ""`:                          true,
		`TO ""`:                               false,
		"MODSEQ 9 SMALLER 31":                 true,
		"MODSEQ 9 SMALLER 30":                 false,
		"KEYWORD seen":                        false,
		"UNKEYWORD seen":                      true,
		"(OR (SEEN 3) (SEEN 2)) ALL":          true,
		"NOT (SEEN 2 ALL) ALL":                false,
		"OR NOT ALL OR NOT ALL NOT ALL":       false,
		"OR NOT ALL OR NOT ALL NOT NOT ALL":   true,
		"(((((((UNSEEN)))))))":                false,
		"(((((((SEEN)))))))":                  true,
		"OR (SEEN UNSEEN) (NOT SEEN) ALL":     false,
		"NOT OR (SEEN UNSEEN) (NOT SEEN) ALL": true,
	} {
		l := search(t, s)
		whole(t, l, true)
		says(t, l, horn(), want)
	}
	whole(t, nil, false)
	whole(t, []api.Key{}, false)
}

// TestNumbers: the numbers of kinds, and the limits, that the rows below go by.
func TestNumbers(t *testing.T) {
	got := []int{api.KeyAnd, api.KeyNot, api.KeyOr, api.KeyAll, api.KeySet, api.KeyUid, api.KeyFlag, api.KeyLarger, api.KeySmaller, api.KeyModseq, api.KeyText, api.KeyBody, api.KeyHeader}
	if !slices.Equal(got, []int{1, 2, 3, 4, 5, 6, 7, 8, 9, 10, 11, 12, 13}) || api.MaxKeys != 32 || api.MaxNest != 8 {
		t.Error(got, api.MaxKeys, api.MaxNest)
	}
}

// TestWants: P11.1, one of l, wherever it stands, whether the keys are whole or not.
func TestWants(t *testing.T) {
	wants := func(l []api.Key, want bool) {
		t.Helper()
		if got := match.Wants(l); got != want {
			t.Errorf("Wants(%v of %d nodes) = %t", ahead(l), len(l), got)
		}
	}
	wants(nil, false)
	wants(keys(), false)
	for kind := -300; kind < 600; kind++ {
		want := kind == 11 || kind == 12 || kind == 13
		k := api.Key{Kind: kind, Kids: 1, Field: "subject", Text: "x", N: 1, Set: []api.Range{{From: 1, To: 1}}}
		wants(keys(api.Key{Kind: kind}), want)
		wants(keys(k), want)
		wants(keys(and(1), k), want)
		for _, n := range []int{1, 2, 31, 32, 33, 1000} {
			for _, at := range []int{0, n / 2, n} {
				wants(slices.Insert(slices.Repeat(keys(yes), n), at, k), want)
			}
		}
	}
	wants(search(t, "OR SEEN (2 NOT TO x)"), true)
	wants(search(t, "OR SEEN (2 NOT TEXT x)"), true)
	wants(search(t, "OR SEEN (2 NOT BODY x)"), true)
	wants(search(t, "OR SEEN (2 NOT UID 3 KEYWORD body) LARGER 3 SMALLER 4 MODSEQ 6 ALL"), false)
}

// TestKeysOnly: P11.2, what a key of one kind says hangs on nothing of it but what the document names.
func TestKeysOnly(t *testing.T) {
	two := []api.Range{{From: 2, To: 2}}
	for kind, both := range map[int][2]api.Key{ // one that says yes of the examples' letter, and one that says no
		api.KeySet:     {{Set: two}, {Set: []api.Range{{From: 7, To: 7}}}},
		api.KeyUid:     {{Set: []api.Range{{From: 7, To: 7}}}, {Set: two}},
		api.KeyFlag:    {{Field: `\Seen`, N: 1}, {Field: `\Seen`}},
		api.KeyLarger:  {{N: 29}, {N: 30}},
		api.KeySmaller: {{N: 31}, {N: 30}},
		api.KeyModseq:  {{N: 9}, {N: 10}},
		api.KeyText:    {{Text: "hi"}, {Text: "horn"}},
		api.KeyBody:    {{Text: "you"}, {Text: "hi"}},
		api.KeyHeader:  {{Field: "subject", Text: "hi"}, {Field: "subject", Text: "you"}},
	} {
		for i, k := range both {
			k.Kind = kind
			says(t, keys(k), horn(), i == 0)
			for _, kids := range []int{-1, 1, 2, 100} { // an AND's alone are counted by it
				k.Kids = kids
				says(t, keys(k), horn(), i == 0)
				says(t, keys(and(2), k, yes), horn(), i == 0)
			}
		}
	}
	for _, kids := range []int{-1, 0, 1, 2, 3} {
		n, o, a := not, or, yes
		n.Kids, o.Kids, a.Kids = kids, kids, kids
		says(t, keys(a), horn(), true)
		says(t, keys(n, a), horn(), false)
		says(t, keys(o, n, a, a), horn(), true)
		says(t, keys(n, o, a, a), horn(), false)
	}
	for kind, kids := range map[int]int{api.KeyAnd: 2, api.KeyNot: 1, api.KeyOr: 2, api.KeyAll: 0} {
		k := api.Key{Kind: kind, Kids: kids, Field: "x", Text: "y", N: 3, Set: two}
		says(t, append(keys(k), slices.Repeat(keys(yes), kids)...), horn(), kind != api.KeyNot)
	}
}
