package mail

import (
	"slices"
	"strings"

	"posthorn/api"
	"posthorn/seqset"
)

// state is a state while an operation turns it. It shares no memory with what was handed in to it.
type state struct{ api.Mail }

// bar is a reason for which an operation may not be done.
type bar struct {
	errno api.Errno
	holds func() bool
}

// barred is the error of the first bar that holds. No bar is asked behind that one, so each may lean on those ahead of it.
func barred(l ...bar) api.Errno {
	for _, b := range l {
		if b.holds() {
			return b.errno
		}
	}
	return api.OK
}

// refused is what came of a request that an error hinders.
func refused(e api.Errno) api.Outcome { return api.Outcome{Code: e} }

// box is the first mailbox of a name; nil, if there is none.
func (n *state) box(name string) *api.Box {
	i := slices.IndexFunc(n.Boxes, func(b api.Box) bool { return b.Name == name })
	if i < 0 {
		return nil
	}
	return &n.Boxes[i]
}

// boxOf is the mailbox that a request names; nil, if there is none, or it has another validity: it is another one by then.
func (n *state) boxOf(r api.Request) *api.Box {
	b := n.box(r.Box)
	if b == nil || b.Validity != r.Validity {
		return nil
	}
	return b
}

// seat is the first seat of a session; nil, if there is none.
func (n *state) seat(session uint64) *api.Seat {
	i := slices.IndexFunc(n.Seats, func(x api.Seat) bool { return x.Session == session })
	if i < 0 {
		return nil
	}
	return &n.Seats[i]
}

// meant asks which letters a set of Uids means among those that there are now.
func meant(of []api.Letter, l []api.Range) func(api.Letter) bool {
	most := uint64(0)
	for _, x := range of {
		most = max(most, x.Uid)
	}
	return func(x api.Letter) bool { return seqset.Has(l, most, x.Uid) }
}

// those are the letters of which something holds.
func those(l []api.Letter, holds func(api.Letter) bool) []api.Letter {
	return slices.DeleteFunc(slices.Clone(l), func(x api.Letter) bool { return !holds(x) })
}

// uids are the letters' Uids.
func uids(l []api.Letter) []uint64 {
	var of []uint64
	for _, x := range l {
		of = append(of, x.Uid)
	}
	return of
}

// copyMail is the same state in new memory.
func copyMail(s api.Mail) api.Mail {
	s.Boxes = slices.Clone(s.Boxes)
	for i, b := range s.Boxes {
		s.Boxes[i] = copyBox(b)
	}
	s.Homes, s.Seats = slices.Clone(s.Homes), slices.Clone(s.Seats)
	return s
}

func copyBox(b api.Box) api.Box {
	b.Name, b.Letters = strings.Clone(b.Name), slices.Clone(b.Letters)
	for i, x := range b.Letters {
		b.Letters[i] = copyLetter(x)
	}
	return b
}

func copyLetter(x api.Letter) api.Letter {
	x.Flags, x.Hash = slices.Clone(x.Flags), strings.Clone(x.Hash)
	for i, f := range x.Flags {
		x.Flags[i] = strings.Clone(f)
	}
	return x
}
