package grammar

import (
	"strings"

	"posthorn/api"
	"posthorn/flag"
	"posthorn/seqset"
	"posthorn/word"
)

const (
	digits   = "0123456789"
	plus     = "+"
	wordEnds = " )" // neither stands in an atom or in a set, and nothing else may stand behind one
)

// reader goes over a request's text. What is wrong ends the reading by a panic, from however deep.
type reader struct {
	left  string    // what isn't read yet
	wrong api.Errno // what is answered where something is wrong from here on
	keys  []api.Key // the nodes of a SEARCH that were read
}

// request reads all of a text.
func (r *reader) request() (c api.Command, e api.Errno) {
	defer func() {
		if recover() != nil {
			c, e = api.Command{Tag: c.Tag}, r.wrong
		}
	}()
	c.Tag = r.tag()
	r.wrong = api.ErrWord
	c.Uid = r.skips("UID ")
	c.Kind = r.kind(c.Uid)
	r.wrong = api.ErrForm
	rules()[c.Kind].read(r, &c)
	if r.left != "" {
		r.fail()
	}
	return c, api.OK
}

// tag reads a tag, and the blank behind it.
func (r *reader) tag() string {
	s := r.atom(api.MaxTag)
	if strings.Contains(s, plus) {
		r.fail()
	}
	r.must(blank)
	return s
}

// kind reads a command's word. It goes on to a blank, whatever stands there: brackets, too.
func (r *reader) kind(uid bool) int {
	name := word.Upper(r.until(blank))
	all := rules()
	for kind := api.CmdCapability; kind < len(all); kind++ {
		if all[kind].word == name && (all[kind].uid || !uid) {
			return kind
		}
	}
	r.fail()
	return 0
}

// fail ends the reading.
func (r *reader) fail() { panic(r.wrong) }

// cut takes so many bytes.
func (r *reader) cut(n int) string {
	if n > len(r.left) {
		r.fail()
	}
	s := r.left[:n]
	r.left = r.left[n:]
	return s
}

// until takes all bytes ahead of the first of some others.
func (r *reader) until(ends string) string {
	n := strings.IndexAny(r.left, ends)
	if n < 0 {
		n = len(r.left)
	}
	return r.cut(n)
}

// skips takes a text that is written in great letters, if it comes next, in whatever letters.
func (r *reader) skips(s string) bool {
	if len(s) > len(r.left) || word.Upper(r.left[:len(s)]) != s {
		return false
	}
	r.cut(len(s))
	return true
}

// must takes a text that has to come next.
func (r *reader) must(s string) {
	if !r.skips(s) {
		r.fail()
	}
}

func (r *reader) number(least, most uint64) uint64 {
	behind := strings.TrimLeft(r.left, digits)
	n, ok := word.Number(r.cut(len(r.left) - len(behind)))
	if !ok || n < least || n > most {
		r.fail()
	}
	return n
}

// atom reads an atom. The answer is no cut of the request, which it would hold; likewise of a literal.
func (r *reader) atom(most int) string {
	s := r.until(wordEnds)
	if len(s) > most || !word.Atom(s) {
		r.fail()
	}
	return strings.Clone(s)
}

func (r *reader) quoted() string {
	s, n, ok := word.Unquote(r.left)
	if !ok {
		r.fail()
	}
	r.cut(n)
	return s
}

func (r *reader) literal() string {
	r.must("{")
	n := r.number(0, api.MaxLiteral)
	r.must("}\r\n")
	return strings.Clone(r.cut(int(n)))
}

// astring reads a text in any of its ways, each of which begins otherwise.
func (r *reader) astring() string {
	switch {
	case strings.HasPrefix(r.left, `"`):
		return r.quoted()
	case strings.HasPrefix(r.left, "{"):
		return r.literal()
	}
	return r.atom(api.MaxLiteral)
}

func (r *reader) set() []api.Range {
	l, ok := seqset.Parse(r.until(wordEnds))
	if !ok {
		r.fail()
	}
	return l
}

func (r *reader) flags() []string {
	l, n, e := flag.Parse(r.left)
	if e != api.OK {
		r.fail()
	}
	r.cut(n)
	return l
}
