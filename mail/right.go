package mail

import (
	"cmp"
	"slices"

	"posthorn/api"
	"posthorn/flag"
	"posthorn/word"
)

// rises says whether a list rises strictly by what is asked of each of it.
func rises[T any, K cmp.Ordered](l []T, by func(T) K) bool {
	for i := range l {
		if i > 0 && by(l[i-1]) >= by(l[i]) {
			return false
		}
	}
	return true
}

// all says whether something holds of each of a list.
func all[T any](l []T, holds func(T) bool) bool {
	return !slices.ContainsFunc(l, func(x T) bool { return !holds(x) })
}

// isName says whether a text is a mailbox's name, as it is kept.
func isName(s string) bool {
	name, ok := word.Box(s)
	return ok && name == s
}

func isNode(n int) bool { return n >= 1 && n <= api.MaxNodes }

func isInbox(b api.Box) bool { return b.Name == inbox }

func rightBoxes(s api.Mail) bool {
	if len(s.Boxes) > api.MaxBoxes || s.NextValidity > api.MaxUid+1 || !slices.ContainsFunc(s.Boxes, isInbox) {
		return false
	}
	of := func(v uint64) int {
		n := 0
		for _, b := range s.Boxes {
			if b.Validity == v {
				n++
			}
		}
		return n
	}
	return rises(s.Boxes, func(b api.Box) string { return b.Name }) && all(s.Boxes, func(b api.Box) bool {
		return b.Validity >= 1 && b.Validity < s.NextValidity && of(b.Validity) == 1 && rightBox(b)
	})
}

func rightBox(b api.Box) bool {
	return isName(b.Name) && b.Next >= 1 && b.Next <= api.MaxUid+1 && b.High >= 1 && b.High <= api.MaxMod &&
		len(b.Letters) <= api.MaxLetters && rises(b.Letters, func(x api.Letter) uint64 { return x.Uid }) &&
		all(b.Letters, func(x api.Letter) bool { return x.Uid < b.Next && x.Mod <= b.High && rightLetter(x) })
}

func rightLetter(x api.Letter) bool {
	return x.Uid >= 1 && flag.Right(x.Flags) && x.Mod >= 1 && len(x.Hash) == hashSize && x.Size <= api.MaxBody
}

func rightHomes(l []api.Home) bool {
	return rises(l, func(h api.Home) int { return h.Node }) && all(l, func(h api.Home) bool {
		return isNode(h.Node) && h.Life >= 1 && h.Try >= 1
	})
}

func rightSeats(s api.Mail) bool {
	if len(s.Seats) > api.MaxSessions || s.NextSession < 1 || s.NextSession > maxSession {
		return false
	}
	isHome := func(x api.Seat) bool {
		return slices.ContainsFunc(s.Homes, func(h api.Home) bool {
			return h.Node == x.Node && h.Life == x.Life && x.Try <= h.Try
		})
	}
	of := func(node int, try uint64) int {
		n := 0
		for _, x := range s.Seats {
			if x.Node == node && x.Try == try {
				n++
			}
		}
		return n
	}
	return rises(s.Seats, func(x api.Seat) uint64 { return x.Session }) && all(s.Seats, func(x api.Seat) bool {
		return x.Session >= 1 && x.Session < s.NextSession && x.Try >= 1 && isHome(x) && of(x.Node, x.Try) == 1
	})
}
