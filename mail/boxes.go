package mail

import (
	"slices"
	"strings"

	"posthorn/api"
	"posthorn/flag"
)

// create makes a mailbox.
func (n *state) create(r api.Request) api.Outcome {
	e := barred(
		bar{api.ErrArg, func() bool { return !isName(r.Box) }},
		bar{api.ErrTwice, func() bool { return n.box(r.Box) != nil }},
		bar{api.ErrFull, func() bool { return len(n.Boxes) >= api.MaxBoxes }},
		bar{api.ErrSpent, func() bool { return n.NextValidity > api.MaxUid }},
	)
	if e != api.OK {
		return refused(e)
	}
	b := api.Box{Name: strings.Clone(r.Box), Validity: n.NextValidity, Next: 1, High: 1}
	at, _ := slices.BinarySearchFunc(n.Boxes, b, func(x, b api.Box) int { return strings.Compare(x.Name, b.Name) })
	n.Boxes = slices.Insert(n.Boxes, at, b)
	n.NextValidity++
	return api.Outcome{Validity: b.Validity}
}

// remove takes a mailbox away.
func (n *state) remove(r api.Request) api.Outcome {
	e := barred(
		bar{api.ErrArg, func() bool { return r.Box == inbox }},
		bar{api.ErrNone, func() bool { return n.box(r.Box) == nil }},
	)
	if e != api.OK {
		return refused(e)
	}
	n.Boxes = slices.DeleteFunc(n.Boxes, func(b api.Box) bool { return b.Name == r.Box })
	return api.Outcome{}
}

// append puts a letter into a mailbox.
func (n *state) append(r api.Request) api.Outcome {
	b := n.box(r.Box)
	e := barred(
		bar{api.ErrNone, func() bool { return b == nil }},
		bar{api.ErrArg, func() bool { return !flag.Right(r.Flags) || len(r.Hash) != hashSize || r.Size > api.MaxBody }},
		bar{api.ErrAgain, func() bool { return r.Sweeps != n.Sweeps }},
		bar{api.ErrFull, func() bool { return len(b.Letters) >= api.MaxLetters }},
		bar{api.ErrSpent, func() bool { return b.Next > api.MaxUid || isSpent(b) }},
	)
	if e != api.OK {
		return refused(e)
	}
	add(b, api.Letter{Flags: r.Flags, Hash: r.Hash, Size: r.Size})
	return api.Outcome{Validity: b.Validity, Uids: uids(b.Letters[len(b.Letters)-1:])}
}

// store changes the flags of the letters that are meant, but of those that were changed since a number.
func (n *state) store(r api.Request) api.Outcome {
	b := n.boxOf(r)
	e := barred(
		bar{api.ErrNone, func() bool { return b == nil }},
		bar{api.ErrArg, func() bool { return !flag.Right(r.Flags) || r.How < api.FlagsSet || r.How > api.FlagsTake }},
	)
	if e != api.OK {
		return refused(e)
	}
	isMeant := meant(b.Letters, r.Uids)
	isHeld := func(x api.Letter) bool { return r.HasSince && x.Mod > r.Since }
	isDone := func(x api.Letter) bool { return isMeant(x) && !isHeld(x) }
	letters, turned, e := stored(b, isDone, r)
	if e != api.OK {
		return refused(e)
	}
	o := api.Outcome{Uids: uids(those(b.Letters, isDone)), Modified: uids(those(b.Letters, func(x api.Letter) bool { return isMeant(x) && isHeld(x) }))}
	b.Letters = letters
	if turned {
		b.High++
	}
	return o
}

// stored are a mailbox's letters behind a store, and whether one of them turned.
func stored(b *api.Box, isDone func(api.Letter) bool, r api.Request) ([]api.Letter, bool, api.Errno) {
	letters, turned := slices.Clone(b.Letters), false
	for i, x := range letters {
		if !isDone(x) {
			continue
		}
		l, e := flag.Change(x.Flags, r.How, r.Flags)
		if e != api.OK {
			return nil, false, e
		}
		if !slices.Equal(l, x.Flags) {
			letters[i].Flags, letters[i].Mod, turned = l, b.High+1, true
		}
	}
	if turned && isSpent(b) {
		return nil, false, api.ErrSpent
	}
	return letters, turned, api.OK
}

// expunge takes letters that are marked so away.
func (n *state) expunge(r api.Request) api.Outcome {
	b := n.boxOf(r)
	if b == nil {
		return refused(api.ErrNone)
	}
	isMeant := meant(b.Letters, r.Uids)
	goes := func(x api.Letter) bool { return flag.Has(x.Flags, deleted) && (len(r.Uids) == 0 || isMeant(x)) }
	gone := those(b.Letters, goes)
	if len(gone) == 0 {
		return api.Outcome{}
	}
	if isSpent(b) {
		return refused(api.ErrSpent)
	}
	b.Letters = slices.DeleteFunc(b.Letters, goes)
	b.High++
	return api.Outcome{Uids: uids(gone)}
}

// copy puts letters of a mailbox into another one, or into itself.
func (n *state) copy(r api.Request) api.Outcome {
	from, to := n.boxOf(r), n.box(r.To)
	e := barred(
		bar{api.ErrNone, func() bool { return from == nil }},
		bar{api.ErrTry, func() bool { return to == nil }},
	)
	if e != api.OK {
		return refused(e)
	}
	l := those(from.Letters, meant(from.Letters, r.Uids))
	if len(l) == 0 {
		return api.Outcome{Validity: to.Validity}
	}
	e = barred(
		bar{api.ErrFull, func() bool { return len(to.Letters)+len(l) > api.MaxLetters }},
		bar{api.ErrSpent, func() bool { return to.Next+uint64(len(l)) > api.MaxUid+1 || isSpent(to) }},
	)
	if e != api.OK {
		return refused(e)
	}
	add(to, l...)
	return api.Outcome{Validity: to.Validity, Uids: uids(to.Letters[len(to.Letters)-len(l):])}
}

// isSpent says whether a mailbox's changes can't be counted any more.
func isSpent(b *api.Box) bool { return b.High >= api.MaxMod }

// add puts letters with the flags, the hashes and the sizes of others at a mailbox's end, as one change.
func add(b *api.Box, l ...api.Letter) {
	b.High++
	for _, x := range l {
		x = copyLetter(x)
		x.Uid, x.Mod = b.Next, b.High
		b.Letters = append(b.Letters, x)
		b.Next++
	}
}
