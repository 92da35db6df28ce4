package reply_test

import (
	"math"
	"slices"
	"strings"
	"testing"

	"posthorn/api"
)

// fields is ways to lay something into one field of a reply, each of which turns it, wherever that field had nothing.
func fields() map[string]func(r *api.Reply) {
	return map[string]func(r *api.Reply){
		"Tag":    func(r *api.Reply) { r.Tag = "*" },
		"Code":   func(r *api.Reply) { r.Code = "y" },
		"Text":   func(r *api.Reply) { r.Text = "y" },
		"N":      func(r *api.Reply) { r.N = 1 },
		"Nums":   func(r *api.Reply) { r.Nums = []uint64{1} },
		"Mod":    func(r *api.Reply) { r.Mod = 1 },
		"Flags":  func(r *api.Reply) { r.Flags = []string{"y"} },
		"Box":    func(r *api.Reply) { r.Box = "y" },
		"Values": func(r *api.Reply) { r.Values = []api.Value{{Kind: api.ItemUid}} },
	}
}

// valueFields is the same of a value.
func valueFields() map[string]func(v *api.Value) {
	return map[string]func(v *api.Value){
		"N":     func(v *api.Value) { v.N = 1 },
		"Flags": func(v *api.Value) { v.Flags = []string{"y"} },
		"Text":  func(v *api.Value) { v.Text = "y" },
		"Part":  func(v *api.Value) { v.Part = true },
		"From":  func(v *api.Value) { v.From = 1 },
	}
}

// TestFieldsOfOthers: P9.1, a field that a reply's kind doesn't name is zero.
func TestFieldsOfOthers(t *testing.T) {
	named := [...]string{
		"", "Tag Code Text", "Tag Code Text", "Tag Code Text", "Tag Code Text", "Text", "", "", "N", "N", "Flags", "Box", "Box Values", "Nums Mod", "N Values",
	}
	for _, x := range eachShape() {
		for name, lay := range fields() {
			if !slices.Contains(strings.Fields(named[x.r.Kind]), name) {
				r := x.r
				lay(&r)
				isNone(t, r)
			}
		}
		r := x.r // empty lists are as none
		if r.Nums == nil {
			r.Nums = []uint64{}
		}
		if r.Flags == nil {
			r.Flags = []string{}
		}
		if r.Values == nil {
			r.Values = []api.Value{}
		}
		prints(t, r, x.text+crlf)
	}
}

// TestFieldsOfOtherValues: P9.1, likewise of a value, and From of what is no part.
func TestFieldsOfOtherValues(t *testing.T) {
	named := [...]string{"", "N", "N", "N", "N", "N", "Flags", "N", "N", "N", "Text Part", "Text Part", "Text Part"}
	for _, x := range eachShape() {
		for at, v := range x.r.Values {
			for name, lay := range valueFields() {
				if slices.Contains(strings.Fields(named[v.Kind]), name) || name == "From" && v.Part {
					continue
				}
				r := x.r
				r.Values = slices.Clone(x.r.Values)
				lay(&r.Values[at])
				isNone(t, r)
			}
			r := x.r
			r.Values = slices.Clone(x.r.Values)
			r.Values[at].Flags = append([]string{}, v.Flags...)
			prints(t, r, x.text+crlf)
		}
	}
}

// TestKinds: P9.1, of replies and of values: which there are, and where.
func TestKinds(t *testing.T) {
	for _, kind := range []int{0, -1, 15, 16, 99, math.MaxInt, math.MinInt} {
		isNone(t, api.Reply{Kind: kind})
		isNone(t, api.Reply{Kind: kind, Tag: "a", Text: "x"})
		isNone(t, api.Reply{Kind: kind, N: 1, Values: []api.Value{{Kind: api.ItemUid}}})
		isNone(t, status(api.Value{Kind: kind}))
		isNone(t, fetch(api.Value{Kind: kind}))
	}
	for kind := -1; kind <= 14; kind++ {
		ofStatus, ofFetch := kind >= 1 && kind <= 5, kind >= 6 && kind <= 12
		for _, l := range [][]int{{kind}, {kind, kind}, {kind, 1}, {1, kind}, {kind, 7}, {7, kind}, {7, kind, 7}, {5, kind, 1}} {
			var values []api.Value
			all := [2]bool{true, true}
			for _, k := range l {
				values = append(values, api.Value{Kind: k})
				mayStatus, mayFetch := k >= 1 && k <= 5, k >= 6 && k <= 12
				all = [2]bool{all[0] && mayStatus, all[1] && mayFetch}
			}
			for i, r := range []api.Reply{status(values...), fetch(values...)} {
				if text, ok := said(r); ok != all[i] {
					t.Errorf("the other road of %v: %t", l, ok)
				} else if ok {
					prints(t, r, text)
				} else {
					isNone(t, r)
				}
			}
		}
		if ofStatus && ofFetch {
			t.Error("both")
		}
	}
}

// TestBreakingTexts: P9.1, fields whose bytes would make the text of another reply, or of two.
func TestBreakingTexts(t *testing.T) {
	for _, r := range []api.Reply{
		{Kind: api.RepOk, Tag: "a OK", Text: "x"}, {Kind: api.RepOk, Tag: "a OK [x]", Text: "x"}, {Kind: api.RepOk, Tag: "", Text: "x"}, {Kind: api.RepOk, Tag: "a", Text: "[x] y"}, {Kind: api.RepOk, Tag: "a", Text: "["},
		{Kind: api.RepOk, Tag: "a", Code: "x", Text: "[y"}, {Kind: api.RepOk, Tag: "a", Code: "x] y", Text: "z"}, {Kind: api.RepOk, Tag: "a", Code: "]", Text: "z"}, {Kind: api.RepOk, Tag: "a", Code: "x" + crlf, Text: "z"},
		{Kind: api.RepOk, Tag: "a", Text: "x" + crlf}, {Kind: api.RepOk, Tag: "a", Text: "x" + crlf + "a OK x"}, {Kind: api.RepGo, Text: "x" + crlf + "+ x"}, {Kind: api.RepGo, Text: crlf},
		{Kind: api.RepNo, Tag: "* OK x" + crlf + "a", Text: "x"}, {Kind: api.RepOk, Tag: "+", Text: "x"}, {Kind: api.RepOk, Tag: "a+b", Text: "x"}, {Kind: api.RepOk, Tag: "**", Text: "x"}, {Kind: api.RepBye, Text: "x"},
		{Kind: api.RepList, Box: "x" + crlf}, {Kind: api.RepList, Box: `x"`}, {Kind: api.RepStatus, Box: "x (UNSEEN 1)"}, {Kind: api.RepStatus, Values: []api.Value{{Kind: api.ItemUnseen}}},
		{Kind: api.RepFlags, Flags: []string{"a)" + crlf + "* FLAGS (b"}}, fetch(api.Value{Kind: api.ItemFlags, Flags: []string{"a) UID 1 FLAGS (b"}}),
	} {
		isNone(t, r)
	}
}
