package grammar

import (
	"strings"

	"posthorn/api"
	"posthorn/word"
)

// What stands behind the words of commands is read here, each time with the blank ahead of it.

func (r *reader) nothing(*api.Command) {}

func (r *reader) enable(*api.Command) { r.must(" CONDSTORE") }

func (r *reader) login(c *api.Command) {
	r.must(blank)
	c.User = r.astring()
	r.must(blank)
	c.Pass = r.astring()
}

func (r *reader) box(c *api.Command) {
	r.must(blank)
	name, ok := word.Box(r.astring())
	if !ok {
		r.fail()
	}
	c.Box = name
}

func (r *reader) selection(c *api.Command) {
	r.box(c)
	c.Cond = r.skips(" (CONDSTORE)")
}

func (r *reader) list(c *api.Command) {
	r.must(` "" `)
	if isBare(r.left) { // a pattern is the last of its request
		c.Pattern = strings.Clone(r.cut(len(r.left)))
	} else {
		c.Pattern = r.astring()
	}
}

// isBare says whether a pattern may stand without quotation marks.
func isBare(pattern string) bool {
	const inAtom = "x"
	return word.Atom(strings.ReplaceAll(strings.ReplaceAll(pattern, "%", inAtom), "*", inAtom))
}

func (r *reader) status(c *api.Command) {
	r.box(c)
	r.must(" (")
	c.Items = r.items((*reader).statusItem)
}

func (r *reader) letter(c *api.Command) {
	r.box(c)
	r.must(blank)
	if strings.HasPrefix(r.left, "(") {
		c.Flags = r.flags()
		r.must(blank)
	}
	c.Data = r.literal()
}

func (r *reader) fetch(c *api.Command) {
	r.meant(c)
	if r.skips("(") {
		c.Items = r.items((*reader).fetchItem)
	} else {
		c.Items = []api.Item{r.fetchItem()}
	}
	r.since(c, " (CHANGEDSINCE ", ")")
}

func (r *reader) store(c *api.Command) {
	r.meant(c)
	r.since(c, "(UNCHANGEDSINCE ", ") ")
	c.How = r.how()
	r.must("FLAGS")
	c.Silent = r.skips(".SILENT")
	r.must(blank)
	c.Flags = r.flags()
}

func (r *reader) copies(c *api.Command) {
	r.must(blank)
	c.Set = r.set()
	r.box(c)
}

// meant reads a set, and the blank behind it.
func (r *reader) meant(c *api.Command) {
	r.must(blank)
	c.Set = r.set()
	r.must(blank)
}

// since reads a modification number, if what stands ahead of one does.
func (r *reader) since(c *api.Command, ahead, behind string) {
	if !r.skips(ahead) {
		return
	}
	c.HasSince = true
	c.Since = r.number(0, api.MaxMod)
	r.must(behind)
}

func (r *reader) how() int {
	switch {
	case r.skips(plus):
		return api.FlagsAdd
	case r.skips("-"):
		return api.FlagsTake
	}
	return api.FlagsSet
}

// items reads those of a list, up to its end.
func (r *reader) items(item func(r *reader) api.Item) []api.Item {
	var l []api.Item
	for more := true; more; more = r.skips(blank) {
		if len(l) == api.MaxItems {
			r.fail()
		}
		l = append(l, item(r))
	}
	r.must(")")
	return l
}

func (r *reader) statusItem() api.Item {
	return api.Item{Kind: r.itemKind(api.ItemMessages, api.ItemHighest)}
}

func (r *reader) fetchItem() api.Item {
	if !r.skips("BODY") {
		return api.Item{Kind: r.itemKind(api.ItemFlags, api.ItemModseq)}
	}
	x := api.Item{Peek: r.skips(".PEEK")}
	x.Kind = r.itemKind(api.ItemBody, api.ItemText)
	if x.Part = r.skips("<"); x.Part {
		x.From = r.number(0, api.MaxUid)
		r.must(".")
		x.Count = r.number(1, api.MaxUid)
		r.must(">")
	}
	return x
}

// itemKind reads the word of one of some kinds. None of these begins with another one.
func (r *reader) itemKind(from, to int) int {
	for kind := from; kind <= to; kind++ {
		if r.skips(itemWords[kind]) {
			return kind
		}
	}
	r.fail()
	return 0
}
