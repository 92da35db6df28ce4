package reply

import (
	"strings"

	"posthorn/api"
	"posthorn/flag"
	"posthorn/word"
)

const (
	digits   = "0123456789"
	modAhead = " (MODSEQ "
	maxNums  = 64 // of a RepSearch
)

// reader goes over a text, and lays what it finds into the reply of a kind.
type reader struct {
	left  string // what isn't read yet
	reply api.Reply
	value api.Value // the one that is read
}

// goesOn says whether all that is looked for comes, one behind the other.
func goesOn(finds ...func() bool) bool {
	for _, found := range finds {
		if !found() {
			return false
		}
	}
	return true
}

// whole finds a reply of the kind.
func (r *reader) whole() bool {
	switch r.reply.Kind {
	case api.RepOk, api.RepNo, api.RepBad, api.RepBye:
		return goesOn(r.tag, r.words, r.code, r.unbracketed, r.text, r.end)
	case api.RepGo:
		return goesOn(r.words, r.text, r.end)
	case api.RepExists, api.RepExpunge:
		return goesOn(r.ahead, r.number, r.words, r.end)
	case api.RepFlags:
		return goesOn(r.words, r.flags, r.end)
	case api.RepList:
		return goesOn(r.words, r.box, r.end)
	case api.RepStatus:
		return goesOn(r.words, r.box, r.blank, r.opening, r.counts, r.closing, r.end)
	case api.RepSearch:
		return goesOn(r.words, r.numbers, r.mod, r.end)
	case api.RepFetch:
		return goesOn(r.ahead, r.number, r.words, r.opening, r.told, r.closing, r.end)
	}
	return goesOn(r.words, r.end) // the others say nothing more
}

// skips takes a text, if it comes next.
func (r *reader) skips(s string) bool {
	left, ok := strings.CutPrefix(r.left, s)
	r.left = left
	return ok
}

func (r *reader) words() bool       { return r.skips(words[r.reply.Kind]) }
func (r *reader) ahead() bool       { return r.skips(ahead) }
func (r *reader) blank() bool       { return r.skips(blank) }
func (r *reader) opening() bool     { return r.skips(opening) }
func (r *reader) closing() bool     { return r.skips(closing) }
func (r *reader) end() bool         { return r.skips(lineEnd) }
func (r *reader) unbracketed() bool { return !strings.HasPrefix(r.left, bracket) }

// until is all bytes ahead of the first of some others. They aren't taken yet.
func (r *reader) until(ends string) string {
	if n := strings.IndexAny(r.left, ends); n >= 0 {
		return r.left[:n]
	}
	return r.left
}

func (r *reader) tag() bool {
	s := r.until(blank)
	if s != star && (r.reply.Kind == api.RepBye || !isTag(s)) {
		return false
	}
	r.reply.Tag = strings.Clone(s) // a cut would hold all of the text; likewise below
	return r.skips(s)
}

func isTag(s string) bool {
	return len(s) <= api.MaxTag && word.Atom(s) && !strings.Contains(s, "+")
}

// code finds a code, or that there is none.
func (r *reader) code() bool {
	if !r.skips(bracket) {
		return true
	}
	return r.takesPlain(&r.reply.Code, "]") && r.skips("] ")
}

func (r *reader) text() bool { return r.takesPlain(&r.reply.Text, lineEnd) }

func (r *reader) takesPlain(to *string, ends string) bool {
	s := r.until(ends)
	if !isPlain(s) {
		return false
	}
	*to = strings.Clone(s)
	return r.skips(s)
}

func isPlain(s string) bool {
	for i := range len(s) { // a range over s itself would go by runes
		if s[i] < 0x20 || s[i] > 0x7e {
			return false
		}
	}
	return s != "" && len(s) <= api.MaxQuoted
}

func (r *reader) number() bool { return r.takesNumber(&r.reply.N) }

func (r *reader) takesNumber(to *uint64) bool {
	left := strings.TrimLeft(r.left, digits)
	n, ok := word.Number(r.left[:len(r.left)-len(left)])
	*to, r.left = n, left
	return ok
}

func (r *reader) flags() bool { return r.takesFlags(&r.reply.Flags) }

// takesFlags finds a set of flags in the one way in which it is printed, likewise box a name.
func (r *reader) takesFlags(to *[]string) bool {
	l, _, e := flag.Parse(r.left)
	*to = l
	return e == api.OK && r.skips(flag.Print(l))
}

func (r *reader) box() bool {
	s, _, quoted := word.Unquote(r.left)
	if !quoted {
		s = r.until(blank + lineEnd)
	}
	name, ok := word.Box(s)
	r.reply.Box = name
	return ok && name == s && r.skips(word.Form(name))
}

// numbers finds those of a RepSearch, up to what else begins with a blank there.
func (r *reader) numbers() bool {
	for !strings.HasPrefix(r.left, modAhead) && r.skips(blank) {
		var n uint64
		if len(r.reply.Nums) == maxNums || !r.takesNumber(&n) {
			return false
		}
		r.reply.Nums = append(r.reply.Nums, n)
	}
	return true
}

// mod finds a modification number, or that there is none.
func (r *reader) mod() bool {
	if !r.skips(modAhead) {
		return true
	}
	return r.takesNumber(&r.reply.Mod) && r.reply.Mod != 0 && r.closing()
}
