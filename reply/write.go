package reply

import (
	"strings"

	"posthorn/api"
	"posthorn/flag"
	"posthorn/word"
)

// text is the text of a reply. Of what is none it is some text.
func text(r api.Reply) string {
	switch r.Kind {
	case api.RepOk, api.RepNo, api.RepBad, api.RepBye:
		return r.Tag + words[r.Kind] + code(r.Code) + r.Text + lineEnd
	case api.RepGo:
		return words[r.Kind] + r.Text + lineEnd
	case api.RepCaps, api.RepEnabled:
		return words[r.Kind] + lineEnd
	case api.RepExists, api.RepExpunge:
		return ahead + word.Digits(r.N) + words[r.Kind] + lineEnd
	case api.RepFlags:
		return words[r.Kind] + flag.Print(r.Flags) + lineEnd
	case api.RepList:
		return words[r.Kind] + word.Form(r.Box) + lineEnd
	case api.RepStatus:
		return words[r.Kind] + word.Form(r.Box) + blank + values(r.Values) + lineEnd
	case api.RepSearch:
		return words[r.Kind] + numbers(r.Nums) + mod(r.Mod) + lineEnd
	case api.RepFetch:
		return ahead + word.Digits(r.N) + words[r.Kind] + values(r.Values) + lineEnd
	}
	return ""
}

func code(s string) string {
	if s == "" {
		return ""
	}
	return bracket + s + "] "
}

func numbers(l []uint64) string {
	var b strings.Builder
	for _, n := range l {
		b.WriteString(blank + word.Digits(n))
	}
	return b.String()
}

func mod(n uint64) string {
	if n == 0 {
		return ""
	}
	return modAhead + word.Digits(n) + closing
}

func values(l []api.Value) string {
	if len(l) > api.MaxValues { // asked ahead: ever so many may share one long text
		return ""
	}
	var parts []string
	for _, v := range l {
		parts = append(parts, value(v))
	}
	return opening + strings.Join(parts, blank) + closing
}

func value(v api.Value) string {
	switch v.Kind {
	case api.ItemMessages, api.ItemNext, api.ItemValidity, api.ItemUnseen, api.ItemHighest, api.ItemUid, api.ItemSize:
		return itemWords[v.Kind] + blank + word.Digits(v.N)
	case api.ItemFlags:
		return itemWords[v.Kind] + blank + flag.Print(v.Flags)
	case api.ItemModseq:
		return itemWords[v.Kind] + blank + opening + word.Digits(v.N) + closing
	case api.ItemBody, api.ItemHeader, api.ItemText:
		return itemWords[v.Kind] + part(v) + blank + word.Literal(v.Text)
	}
	return ""
}

func part(v api.Value) string {
	if !v.Part {
		return ""
	}
	return "<" + word.Digits(v.From) + ">"
}
