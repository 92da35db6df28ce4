package match_test

import (
	"strings"
	"testing"

	"posthorn/api"
)

// great are numbers at which a lesser kind of number would turn round.
var great = []uint64{0, 1, 2, 3, 1<<31 - 1, 1 << 31, 1<<32 - 1, 1 << 32, 1<<32 + 1, 1<<63 - 1, 1 << 63, 1<<63 + 1, 1<<64 - 2, 1<<64 - 1}

// TestSet: P11.2, KeySet by the number in the view and the greatest one there, KeyUid by the Uid and the greatest of these.
func TestSet(t *testing.T) {
	for _, x := range []struct {
		set     []api.Range
		most, n uint64
		want    bool
	}{
		{nil, 5, 3, false},
		{nil, 0, 0, false},
		{[]api.Range{{From: 3, To: 3}}, 5, 3, true},
		{[]api.Range{{From: 3, To: 3}}, 5, 4, false},
		{[]api.Range{{From: 3, To: 3}}, 1, 3, true},
		{[]api.Range{{From: 2, To: 4}}, 5, 1, false},
		{[]api.Range{{From: 2, To: 4}}, 5, 2, true},
		{[]api.Range{{From: 2, To: 4}}, 5, 4, true},
		{[]api.Range{{From: 2, To: 4}}, 5, 5, false},
		{[]api.Range{{From: 4, To: 2}}, 5, 3, true},
		{[]api.Range{{From: 1, To: 2}, {From: 7, To: 9}}, 5, 8, true},
		{[]api.Range{{From: 1, To: 2}, {From: 7, To: 9}}, 5, 5, false},
		{[]api.Range{{}}, 5, 5, true},
		{[]api.Range{{}}, 5, 4, false},
		{[]api.Range{{}}, 5, 0, false},
		{[]api.Range{{}}, 0, 0, true},
		{[]api.Range{{From: 9}}, 5, 7, true},
		{[]api.Range{{From: 9}}, 5, 4, false},
		{[]api.Range{{From: 4}}, 5, 6, false},
		{[]api.Range{{To: 4}}, 9, 7, true},
		{[]api.Range{{From: 1 << 40, To: 1 << 63}}, 5, 1 << 50, true},
	} {
		seq := meant{at: api.Place{Seq: x.n, MostSeq: x.most}}
		uid := meant{x: api.Letter{Uid: x.n}, at: api.Place{MostUid: x.most}}
		for _, other := range append([]uint64{5, 8}, great...) { // what stands in the fields of the other kind of numbers turns nothing
			seq.x = api.Letter{Uid: other, Mod: other, Size: other}
			seq.at.MostUid = other
			says(t, keys(api.Key{Kind: api.KeySet, Set: x.set}), seq, x.want)
			uid.x = api.Letter{Uid: x.n, Mod: other, Size: other}
			uid.at = api.Place{Seq: other, MostSeq: other, MostUid: x.most}
			says(t, keys(api.Key{Kind: api.KeyUid, Set: x.set}), uid, x.want)
		}
	}
}

// TestFlag: P11.2 and P11.5, a flag stands in the letter's, byte by byte, and just one of N 1 and N 0 says so.
func TestFlag(t *testing.T) {
	for _, flags := range [][]string{nil, {}, {`\Seen`}, {"work"}, {`\Answered`, `\Seen`, "a", "work"}, {"", "x y"}, {`\seen`, "Work"}, {"seen"}, {"b", "b"}} {
		for _, f := range []string{"", `\Seen`, `\seen`, `\SEEN`, `\See`, `\Seen `, "seen", "Seen", `\Answered`, "a", "b", "work", "Work", "wor", "works", "x y", `\`, "\x00"} {
			there := false
			for _, g := range flags {
				there = there || g == f
			}
			y := horn()
			y.x.Flags = flags
			says(t, keys(api.Key{Kind: api.KeyFlag, Field: f, N: 1}), y, there)
			for _, n := range great {
				if n != 1 {
					says(t, keys(api.Key{Kind: api.KeyFlag, Field: f, N: n}), y, !there)
				}
			}
		}
	}
}

// TestGreater: P11.2, Size above N, below N; Mod N or above.
func TestGreater(t *testing.T) {
	for _, have := range great {
		for _, n := range great {
			for _, other := range great {
				y := horn()
				y.x.Uid, y.x.Mod, y.x.Size = other, other, have
				says(t, keys(api.Key{Kind: api.KeyLarger, N: n}), y, have > n)
				says(t, keys(api.Key{Kind: api.KeySmaller, N: n}), y, have < n)
				y.x.Mod, y.x.Size = have, other
				says(t, keys(api.Key{Kind: api.KeyModseq, N: n}), y, have >= n)
			}
		}
	}
	y := horn()
	y.m = strings.Repeat("x", 100) // how many bytes are handed in is nothing to them
	says(t, keys(api.Key{Kind: api.KeyLarger, N: 50}), y, false)
	says(t, keys(api.Key{Kind: api.KeySmaller, N: 50}), y, true)
}

// TestTexts: P11.2, TEXT goes by all bytes, BODY by those behind the header, HEADER by the first field of that name.
func TestTexts(t *testing.T) {
	head := "Subject: Post" + crlf + " Horn" + crlf + "To:a" + crlf + "subject: second" + crlf + "TO : spaced" + crlf + "Empty: " + crlf + "none" + crlf
	for _, x := range []struct {
		m, name, text    string
		all, body, field bool
	}{
		{head + crlf + "the text", "subject", "the text", true, true, false},
		{head + crlf + "the text", "subject", "THE TEXT", true, true, false},
		{head + crlf + "the text", "subject", "post horn", false, false, true},
		{head + crlf + "the text", "SUBJECT", "T HO", false, false, true},
		{head + crlf + "the text", "Subject", "POST", true, false, true},
		{head + crlf + "the text", "subject", "second", true, false, false},
		{head + crlf + "the text", "subject", "subject", true, false, false},
		{head + crlf + "the text", "subject", " post", true, false, false},
		{head + crlf + "the text", "to", "a", true, false, true},
		{head + crlf + "the text", "to", "spaced", true, false, false},
		{head + crlf + "the text", "to ", "spaced", true, false, true},
		{head + crlf + "the text", "to", "", true, true, true},
		{head + crlf + "the text", "empty", "", true, true, true},
		{head + crlf + "the text", "empty", " ", true, true, false},
		{head + crlf + "the text", "none", "", true, true, false},
		{head + crlf + "the text", "missing", "", true, true, false},
		{head + crlf + "the text", "", "", true, true, false},
		{head + crlf + "the text", "subject", crlf + crlf, true, false, false},
		{head + crlf + "the text", "subject", crlf + "the", true, false, false},
		{head + crlf + "subject: third", "subject", "third", true, true, false},
		{head + crlf + "from: x", "from", "x", true, true, false},
		{head + crlf + "a" + crlf + crlf + "b", "to", "b", true, true, false},
		{head + crlf + "a" + crlf + crlf + "b", "to", "a", true, true, true},
		{crlf + "to: a", "to", "a", true, true, false},
		{"to: a", "to", "a", true, false, true},
		{"to: a", "to", "", true, true, true},
		{"", "to", "", true, true, false},
		{"", "", "", true, true, false},
		{"", "to", "a", false, false, false},
		{"to: \xc3\xa9" + crlf + crlf + "\xff\x00", "to", "\xa9", true, false, true},
		{"to: \xc3\xa9" + crlf + crlf + "\xff\x00", "to", "\x00", true, true, false},
		{"to: @[" + crlf + crlf + "@[", "to", "`{", false, false, false},
	} {
		for kind, want := range map[int]bool{api.KeyText: x.all, api.KeyBody: x.body, api.KeyHeader: x.field} {
			for _, seen := range []uint64{0, 1, 1 << 63} {
				y := meant{x: api.Letter{Uid: seen, Mod: seen, Size: seen}, at: api.Place{Seq: seen, MostSeq: seen, MostUid: seen}, m: x.m}
				k := api.Key{Kind: kind, Field: x.name, Text: x.text, N: seen}
				says(t, keys(k), y, want)
				if kind != api.KeyHeader { // these have no field
					k.Field = ""
					says(t, keys(k), y, want)
				}
			}
		}
	}
}

// TestEachByte: P11.2, what is looked for may have any bytes, and goes by any letters from A to Z alone.
func TestEachByte(t *testing.T) {
	for c := range 256 {
		s := "x" + string([]byte{byte(c)}) + "y"
		turned := "x" + string([]byte{byte(c) ^ 32}) + "y"
		letter := 'a' <= c|32 && c|32 <= 'z'
		y := meant{m: crlf + s}
		says(t, keys(api.Key{Kind: api.KeyBody, Text: s}), y, true)
		says(t, keys(api.Key{Kind: api.KeyText, Text: s}), y, true)
		says(t, keys(api.Key{Kind: api.KeyBody, Text: turned}), y, letter)
		says(t, keys(api.Key{Kind: api.KeyText, Text: turned}), y, letter)
		if c == ':' { // no name has one
			continue
		}
		y.m = s + ":" + s
		says(t, keys(api.Key{Kind: api.KeyHeader, Field: s, Text: s}), y, true)
		says(t, keys(api.Key{Kind: api.KeyHeader, Field: turned, Text: s}), y, letter)
		says(t, keys(api.Key{Kind: api.KeyHeader, Field: s, Text: turned}), y, letter)
	}
}
