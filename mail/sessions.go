package mail

import (
	"cmp"
	"slices"

	"posthorn/api"
)

// operations are what the operations do. With an error they turn nothing.
func operations() [api.OpSweep + 1]func(*state, api.Request) api.Outcome {
	return [...]func(*state, api.Request) api.Outcome{
		api.OpOpen:    (*state).open,
		api.OpEnd:     (*state).end,
		api.OpLook:    (*state).look,
		api.OpCreate:  (*state).create,
		api.OpDelete:  (*state).remove,
		api.OpAppend:  (*state).append,
		api.OpStore:   (*state).store,
		api.OpExpunge: (*state).expunge,
		api.OpCopy:    (*state).copy,
		api.OpSweep:   (*state).sweep,
	}
}

// isOfSession says whether an operation is one of a session, which numbers its requests.
func isOfSession(op int) bool { return op != api.OpOpen && op != api.OpSweep }

// count takes the number of a session's request as that of its last one.
func (n *state) count(r api.Request) api.Errno {
	x := n.seat(r.Session)
	e := barred(
		bar{api.ErrSeat, func() bool { return x == nil }},
		bar{api.ErrOld, func() bool { return r.Number <= x.Last }},
	)
	if e == api.OK {
		x.Last = r.Number
	}
	return e
}

// open gives a node's try a seat.
func (n *state) open(r api.Request) api.Outcome {
	if !isNode(r.Node) || r.Life == 0 || r.Try == 0 {
		return refused(api.ErrArg)
	}
	home := n.home(r.Node)
	if home.Life > r.Life {
		return refused(api.ErrOld)
	}
	if home.Life == r.Life && home.Try >= r.Try {
		return n.reopen(r)
	}
	seats := n.Seats
	if r.Life > home.Life {
		seats = slices.DeleteFunc(slices.Clone(seats), func(x api.Seat) bool { return x.Node == r.Node })
	}
	if len(seats) >= api.MaxSessions || n.NextSession >= maxSession {
		return refused(api.ErrFull)
	}
	x := api.Seat{Session: n.NextSession, Node: r.Node, Life: r.Life, Try: r.Try}
	n.Seats = append(seats, x)
	n.NextSession++
	n.settle(api.Home{Node: r.Node, Life: r.Life, Try: r.Try})
	return api.Outcome{Session: x.Session}
}

// reopen tells the session of a try that was made already, if it is there still.
func (n *state) reopen(r api.Request) api.Outcome {
	i := slices.IndexFunc(n.Seats, func(x api.Seat) bool { return x.Node == r.Node && x.Try == r.Try })
	if i < 0 {
		return refused(api.ErrOld)
	}
	return api.Outcome{Session: n.Seats[i].Session}
}

// home is a node's home; of one without it is one of life 0, which is before all lives.
func (n *state) home(node int) api.Home {
	i := slices.IndexFunc(n.Homes, func(h api.Home) bool { return h.Node == node })
	if i < 0 {
		return api.Home{}
	}
	return n.Homes[i]
}

// settle puts a node's home in the place of the one that it had, or where it belongs.
func (n *state) settle(h api.Home) {
	at, known := slices.BinarySearchFunc(n.Homes, h, func(x, h api.Home) int { return cmp.Compare(x.Node, h.Node) })
	if !known {
		n.Homes = slices.Insert(n.Homes, at, h)
	}
	n.Homes[at] = h
}

// end takes a session's seat.
func (n *state) end(r api.Request) api.Outcome {
	n.Seats = slices.DeleteFunc(n.Seats, func(x api.Seat) bool { return x.Session == r.Session })
	return api.Outcome{}
}

// look only says how far the log was when it was asked.
func (n *state) look(api.Request) api.Outcome { return api.Outcome{} }

// sweep counts that bodies that no letter has are given up.
func (n *state) sweep(api.Request) api.Outcome {
	if n.Sweeps >= api.MaxMod {
		return refused(api.ErrSpent)
	}
	n.Sweeps++
	return api.Outcome{}
}
