package grammar

import (
	"strings"

	"posthorn/api"
	"posthorn/flag"
	"posthorn/seqset"
	"posthorn/word"
)

const noText = "NIL" // says that there is none, and so no pattern stands so

// itemWords is the words of items, each at its kind; of a part of a body it is what stands behind BODY.
var itemWords = [...]string{
	api.ItemMessages: "MESSAGES",
	api.ItemNext:     "UIDNEXT",
	api.ItemValidity: "UIDVALIDITY",
	api.ItemUnseen:   "UNSEEN",
	api.ItemHighest:  "HIGHESTMODSEQ",
	api.ItemFlags:    "FLAGS",
	api.ItemUid:      "UID",
	api.ItemSize:     "RFC822.SIZE",
	api.ItemModseq:   "MODSEQ",
	api.ItemBody:     "[]",
	api.ItemHeader:   "[HEADER]",
	api.ItemText:     "[TEXT]",
}

// text is the one text of a command that may be. Of one that may not be it is some text.
func text(c api.Command) string {
	if c.Kind < api.CmdCapability || c.Kind > api.CmdCopy {
		return ""
	}
	x := rules()[c.Kind]
	return c.Tag + blank + when(c.Uid, "UID ") + x.word + x.write(c)
}

// when is a text that stands in some cases alone.
func when(is bool, s string) string {
	if !is {
		return ""
	}
	return s
}

func writeNothing(api.Command) string { return "" }

func writeEnable(api.Command) string { return " CONDSTORE" }

func writeLogin(c api.Command) string { return blank + word.Form(c.User) + blank + word.Form(c.Pass) }

func writeBox(c api.Command) string { return blank + word.Form(c.Box) }

func writeSelection(c api.Command) string { return writeBox(c) + when(c.Cond, " (CONDSTORE)") }

func writeList(c api.Command) string {
	pattern := word.Form(c.Pattern)
	if isBare(c.Pattern) && word.Upper(c.Pattern) != noText {
		pattern = c.Pattern
	}
	return ` "" ` + pattern
}

func writeStatus(c api.Command) string { return writeBox(c) + " (" + items(c.Items) + ")" }

func writeLetter(c api.Command) string {
	flags := when(len(c.Flags) > 0, blank+flag.Print(c.Flags))
	return writeBox(c) + flags + blank + word.Literal(c.Data)
}

func writeSearch(c api.Command) string {
	if len(c.Keys) > api.MaxKeys { // asked ahead: as many as there are may stand in one another
		return ""
	}
	w := keyWriter{left: c.Keys}
	return blank + w.keys(w.next().Kids)
}

func writeFetch(c api.Command) string {
	l := items(c.Items)
	if len(c.Items) != 1 {
		l = "(" + l + ")"
	}
	since := when(c.HasSince, " (CHANGEDSINCE "+word.Digits(c.Since)+")")
	return blank + set(c.Set) + blank + l + since
}

func writeStore(c api.Command) string {
	since := when(c.HasSince, "(UNCHANGEDSINCE "+word.Digits(c.Since)+") ")
	how := when(c.How == api.FlagsAdd, plus) + when(c.How == api.FlagsTake, "-")
	return blank + set(c.Set) + blank + since + how + "FLAGS" + when(c.Silent, ".SILENT") + blank + flag.Print(c.Flags)
}

func writeCopies(c api.Command) string { return blank + set(c.Set) + writeBox(c) }

// set is a set's text. Of ranges that are none it is empty, which is no set's.
func set(l []api.Range) string {
	s, _ := seqset.Print(l)
	return s
}

func items(l []api.Item) string {
	var parts []string
	for _, x := range l {
		parts = append(parts, item(x))
	}
	return strings.Join(parts, blank)
}

func item(x api.Item) string {
	if x.Kind < 0 || x.Kind >= len(itemWords) {
		return ""
	}
	body := when(x.Kind >= api.ItemBody, "BODY"+when(x.Peek, ".PEEK"))
	part := when(x.Part, "<"+word.Digits(x.From)+"."+word.Digits(x.Count)+">")
	return body + itemWords[x.Kind] + part
}

// keyWriter goes over the nodes of keys.
type keyWriter struct{ left []api.Key }

// next takes a node; where none is left, one that has no text.
func (w *keyWriter) next() api.Key {
	if len(w.left) == 0 {
		return api.Key{}
	}
	k := w.left[0]
	w.left = w.left[1:]
	return k
}

// keys writes so many keys, or as many as there may be.
func (w *keyWriter) keys(n int) string {
	var parts []string
	for range min(n, api.MaxKeys) {
		parts = append(parts, w.key())
	}
	return strings.Join(parts, blank)
}

// key writes a key with its kids.
func (w *keyWriter) key() string {
	k := w.next()
	switch k.Kind {
	case api.KeyAnd:
		return "(" + w.keys(k.Kids) + ")"
	case api.KeyNot:
		return "NOT " + w.keys(1)
	case api.KeyOr:
		return "OR " + w.keys(2)
	}
	return leaf(k)
}

// leaf writes a key that has no kids.
func leaf(k api.Key) string {
	switch k.Kind {
	case api.KeyAll:
		return "ALL"
	case api.KeySet:
		return set(k.Set)
	case api.KeyUid:
		return "UID " + set(k.Set)
	case api.KeyFlag:
		return when(k.N == 0, "UN") + flagWords(k.Field)
	case api.KeyLarger:
		return "LARGER " + word.Digits(k.N)
	case api.KeySmaller:
		return "SMALLER " + word.Digits(k.N)
	case api.KeyModseq:
		return "MODSEQ " + word.Digits(k.N)
	case api.KeyText:
		return "TEXT " + word.Form(k.Text)
	case api.KeyBody:
		return "BODY " + word.Form(k.Text)
	case api.KeyHeader:
		return "HEADER " + word.Form(k.Field) + blank + word.Form(k.Text)
	}
	return ""
}

// flagWords asks for a flag: one of the system has a word of its own.
func flagWords(f string) string {
	if name, ok := strings.CutPrefix(f, `\`); ok {
		return word.Upper(name)
	}
	return "KEYWORD " + f
}
