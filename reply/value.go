package reply

import (
	"strings"

	"posthorn/api"
)

// counts finds the values of a STATUS.
func (r *reader) counts() bool { return r.list(r.count) }

// told finds those of a FETCH.
func (r *reader) told() bool { return r.list(r.item) }

// list finds values with a blank between.
func (r *reader) list(finds func() bool) bool {
	for more := true; more; more = r.blank() {
		r.value = api.Value{}
		if len(r.reply.Values) == api.MaxValues || !finds() {
			return false
		}
		r.reply.Values = append(r.reply.Values, r.value)
	}
	return true
}

func (r *reader) count() bool {
	return r.kind(api.ItemMessages, api.ItemHighest) && goesOn(r.blank, r.itemNumber)
}

func (r *reader) item() bool {
	if !r.kind(api.ItemFlags, api.ItemText) {
		return false
	}
	switch r.value.Kind {
	case api.ItemFlags:
		return goesOn(r.blank, r.itemFlags)
	case api.ItemUid, api.ItemSize:
		return goesOn(r.blank, r.itemNumber)
	case api.ItemModseq:
		return goesOn(r.blank, r.opening, r.itemNumber, r.closing)
	}
	return goesOn(r.part, r.blank, r.literal)
}

// kind finds the word of one of some kinds. None of these begins with another one.
func (r *reader) kind(from, to int) bool {
	for kind := from; kind <= to; kind++ {
		if r.skips(itemWords[kind]) {
			r.value.Kind = kind
			return true
		}
	}
	return false
}

func (r *reader) itemNumber() bool { return r.takesNumber(&r.value.N) }

func (r *reader) itemFlags() bool { return r.takesFlags(&r.value.Flags) }

// part finds from where on a body is told, or that all of it is.
func (r *reader) part() bool {
	if !r.skips("<") {
		return true
	}
	r.value.Part = true
	return r.takesNumber(&r.value.From) && r.skips(">")
}

func (r *reader) literal() bool {
	var n uint64
	if !r.skips("{") || !r.takesNumber(&n) || !r.skips("}"+lineEnd) {
		return false
	}
	if n > api.MaxBody || n > uint64(len(r.left)) {
		return false
	}
	s := r.left[:n]
	r.value.Text = strings.Clone(s)
	return r.skips(s)
}
