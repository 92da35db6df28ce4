package mail_test

import (
	"math/rand"
	"reflect"
	"slices"
	"testing"

	"posthorn/api"
	"posthorn/mail"
)

// pick is one of some.
func pick[T any](dice *rand.Rand, l ...T) T { return l[dice.Intn(len(l))] }

// someCount is a number up to a limit, and often the limit or near it.
func someCount(dice *rand.Rand, most int) int {
	if dice.Intn(3) == 0 {
		return most - dice.Intn(2)
	}
	return dice.Intn(most + 1)
}

// someFlags are a set.
func someFlags(dice *rand.Rand, most int) []string {
	all := append([]string{`\Answered`, `\Flagged`, `\Deleted`, `\Seen`, `\Draft`}, flags(13)...)
	dice.Shuffle(len(all), func(i, j int) { all[i], all[j] = all[j], all[i] })
	return ordered(setOf(all[:dice.Intn(most+1)]))
}

// near is a number at or a little below a limit, or a small one.
func near(dice *rand.Rand, least, limit uint64) uint64 {
	if dice.Intn(4) == 0 {
		return limit - min(limit-least, uint64(dice.Intn(4)))
	}
	return least + min(limit-least, uint64(dice.Intn(9)))
}

// someLetters are letters of a mailbox whose Next and High are these.
func someLetters(dice *rand.Rand, next, high uint64) []api.Letter {
	var l []api.Letter
	uid := next - min(next-1, uint64(dice.Intn(60)))
	for range someCount(dice, pick(dice, 2, 4, 32)) {
		if uid >= next {
			break
		}
		most := pick(dice, 1, 2, 3, 16)
		l = append(l, api.Letter{Uid: uid, Flags: someFlags(dice, most), Mod: high - min(high-1, uint64(dice.Intn(5))), Hash: hash(dice.Intn(9)), Size: near(dice, 0, 4096)})
		uid += uint64(1 + dice.Intn(2))
	}
	return l
}

// names are those of some mailboxes; the last one is as long as may be.
func names() []string {
	long := "z"
	for len(long) < 64 {
		long += "y"
	}
	return []string{"A", "b", "b/c", "INBOX 2", "inbo", "~", "0", "x y", long}
}

// someMail is a right state.
func someMail(dice *rand.Rand) api.Mail {
	s := api.Mail{NextValidity: near(dice, 10, maxUid+1), NextSession: near(dice, 30, maxSession), Sweeps: near(dice, 0, maxMod)}
	l := names()
	dice.Shuffle(len(l), func(i, j int) { l[i], l[j] = l[j], l[i] })
	l = append(l[:someCount(dice, pick(dice, 2, 2, 7))], "INBOX")
	slices.Sort(l)
	for i, name := range l {
		b := api.Box{Name: name, Validity: s.NextValidity - 1 - uint64(i*3%8), Next: near(dice, 1, maxUid+1) + uint64(dice.Intn(2)), High: near(dice, 1, maxMod)}
		if b.Next += uint64(dice.Intn(40)); b.Next > maxUid+1 {
			b.Next = maxUid + 1
		}
		b.Letters = someLetters(dice, b.Next, b.High)
		s.Boxes = append(s.Boxes, b)
	}
	for node := 1; node <= 5; node++ {
		if dice.Intn(2) == 0 {
			s.Homes = append(s.Homes, api.Home{Node: node, Life: near(dice, 1, maxNumber), Try: near(dice, 8, maxNumber)})
		}
	}
	session := s.NextSession - uint64(20+dice.Intn(9))
	for range someCount(dice, 16) {
		if len(s.Homes) == 0 {
			break
		}
		h := s.Homes[dice.Intn(len(s.Homes))]
		x := api.Seat{Session: session, Last: uint64(dice.Intn(9)), Node: h.Node, Life: h.Life, Try: h.Try - uint64(dice.Intn(8))}
		if !slices.ContainsFunc(s.Seats, func(y api.Seat) bool { return y.Node == x.Node && y.Try == x.Try }) {
			s.Seats = append(s.Seats, x)
			session++
		}
	}
	return s
}

// someName is that of a mailbox that there is, mostly.
func someName(dice *rand.Rand, s api.Mail) string {
	if dice.Intn(6) == 0 {
		return pick(dice, append(names(), "", "inbox", "a*", "new", "INBOX")...)
	}
	return pick(dice, s.Boxes...).Name
}

// someRequest is a request that may come to a state, right or wrong.
func someRequest(dice *rand.Rand, s api.Mail) api.Request {
	r := api.Request{Op: 1 + dice.Intn(10), Box: someName(dice, s), To: someName(dice, s), Sweeps: s.Sweeps, Hash: hash(dice.Intn(99)), Size: near(dice, 0, 4096)}
	r.Flags, r.How = someFlags(dice, pick(dice, 1, 4, 16)), dice.Intn(3)
	if len(s.Seats) > 0 {
		x := pick(dice, s.Seats...)
		r.Session, r.Number = x.Session, x.Last+1+uint64(dice.Intn(2))
	}
	if len(s.Homes) > 0 {
		h := pick(dice, s.Homes...)
		r.Node, r.Life, r.Try = h.Node, h.Life+uint64(dice.Intn(3))-uint64(dice.Intn(2)), h.Try+uint64(dice.Intn(4))-uint64(dice.Intn(3))
	}
	if dice.Intn(3) == 0 {
		r.Node, r.Life, r.Try = dice.Intn(7), uint64(dice.Intn(4)), uint64(dice.Intn(4))
	}
	uids := []uint64{0, 0, 1, uint64(dice.Intn(20)), maxUid, maxNumber}
	if b, ok := mail.Find(s, r.Box); ok {
		r.Validity, r.HasSince, r.Since = b.Validity, dice.Intn(2) == 0, b.High-uint64(dice.Intn(5))
		for _, x := range b.Letters {
			uids = append(uids, x.Uid, x.Uid+1)
		}
	}
	for range pick(dice, 0, 1, 1, 2, 3, 64) {
		r.Uids = append(r.Uids, api.Range{From: pick(dice, uids...), To: pick(dice, uids...)})
	}
	spoil(dice, &r)
	return r
}

// spoil makes something of a request wrong, now and then.
func spoil(dice *rand.Rand, r *api.Request) {
	switch dice.Intn(60) {
	case 0:
		r.Op = pick(dice, -1, 0, 11)
	case 1:
		r.Session += 99
	case 2:
		r.Number = 0
	case 3:
		r.Flags = []string{"b", "a"}
	case 4:
		r.How = pick(dice, -1, 3)
	case 5:
		r.Hash = r.Hash[1:]
	case 6:
		r.Size = 4097
	case 7:
		r.Sweeps++
	case 8:
		r.Validity++
	case 9:
		r.Uids = manyRanges(65)
	}
}

// TestDice: P18.2, P18.3, all operations on states of all sorts, by the other road.
func TestDice(t *testing.T) {
	dice := rand.New(rand.NewSource(181))
	codes := map[api.Errno]int{}
	for range 12000 {
		s := someMail(dice)
		if !mail.Right(s) || !otherRight(s) {
			t.Fatalf("it isn't right: %+v", s)
		}
		was := deep(s)
		for range 4 {
			r := someRequest(dice, s)
			want, wantO := otherApply(s, r)
			got, o := mail.Apply(s, r)
			if !reflect.DeepEqual(deepOutcome(o), deepOutcome(wantO)) {
				t.Fatalf("%+v on\n%+v: %+v; must be %+v", r, s, o, wantO)
			}
			is(t, got, want)
			if !mail.Right(got) {
				t.Fatalf("it isn't right any more: %+v", got)
			}
			codes[o.Code]++
		}
		is(t, s, was)
	}
	for _, e := range []api.Errno{api.OK, api.ErrArg, api.ErrNone, api.ErrFull, api.ErrTwice, api.ErrSpent, api.ErrOld, api.ErrAgain, api.ErrSeat, api.ErrTry} {
		if codes[e] < 40 {
			t.Errorf("the error %d came %d times alone", e, codes[e])
		}
	}
}

// history is what has been seen of a row of states.
type history struct {
	of map[string]map[[2]uint64]string // by name, Validity and Uid: the hash
	s  api.Mail
}

// see checks what must hold of a state behind those that were seen.
func (h *history) see(t *testing.T, s api.Mail) {
	t.Helper()
	if s.NextValidity < h.s.NextValidity || s.NextSession < h.s.NextSession || s.Sweeps < h.s.Sweeps {
		t.Fatalf("a number fell: %+v", s)
	}
	for _, b := range s.Boxes {
		if was, ok := mail.Find(h.s, b.Name); ok && was.Validity == b.Validity && (b.Next < was.Next || b.High < was.High) {
			t.Fatalf("a number fell: %+v", b)
		}
		for _, x := range b.Letters {
			at := [2]uint64{b.Validity, x.Uid}
			if h.of[b.Name] == nil {
				h.of[b.Name] = map[[2]uint64]string{}
			}
			if was, ok := h.of[b.Name][at]; ok && was != x.Hash {
				t.Fatalf("%q %v names two hashes", b.Name, at)
			}
			h.of[b.Name][at] = x.Hash
		}
	}
	h.s = s
}

// apart checks that no mailbox turned but the one that is named, and none at all by an error.
func apart(t *testing.T, was, now api.Mail, r api.Request, o api.Outcome) {
	t.Helper()
	named := r.Box
	if r.Op == api.OpCopy {
		named = r.To
	}
	for _, name := range append(names(), "INBOX", "new") {
		a, thereA := mail.Find(was, name)
		b, thereB := mail.Find(now, name)
		same := thereA == thereB && reflect.DeepEqual(deepBox(a), deepBox(b))
		if !same && (name != named || o.Code != api.OK || r.Op < api.OpCreate || r.Op > api.OpCopy) {
			t.Fatalf("%+v turned %q", r, name)
		}
	}
}

// held checks that what was changed behind Since is as it was.
func held(t *testing.T, was, now api.Mail, r api.Request, o api.Outcome) {
	t.Helper()
	if r.Op != api.OpStore || !r.HasSince || o.Code != api.OK {
		return
	}
	a, _ := mail.Find(was, r.Box)
	b, _ := mail.Find(now, r.Box)
	for i, x := range a.Letters {
		if x.Mod > r.Since && !reflect.DeepEqual(deepBox(api.Box{Letters: []api.Letter{x}}), deepBox(api.Box{Letters: b.Letters[i : i+1]})) {
			t.Fatalf("%+v turned what was to be held: %+v", r, x)
		}
	}
}

// again checks that the same request does nothing a second time.
func again(t *testing.T, s api.Mail, r api.Request, o api.Outcome) {
	t.Helper()
	if r.Op == api.OpSweep {
		return
	}
	next, second := mail.Apply(s, r)
	is(t, next, s)
	switch {
	case o.Code == api.ErrArg && second.Code == api.ErrArg, r.Op == api.OpOpen && o.Code == second.Code && o.Session == second.Session, r.Op == api.OpOpen && second.Code == api.ErrOld:
	case second.Code != api.ErrOld && second.Code != api.ErrSeat:
		t.Fatalf("%+v again: %+v", r, second)
	}
}

// TestRuns: P18.3 to P18.7, long rows of operations.
func TestRuns(t *testing.T) {
	dice := rand.New(rand.NewSource(182))
	for i := range 150 {
		s := mail.New()
		if i%2 == 1 {
			s = someMail(dice)
		}
		seen := &history{map[string]map[[2]uint64]string{}, s}
		for range 250 {
			r := someRequest(dice, s)
			if dice.Intn(3) > 0 && r.Op == api.OpDelete || dice.Intn(3) > 0 && r.Op == api.OpEnd {
				continue
			}
			next, o := mail.Apply(s, r)
			if !mail.Right(next) {
				t.Fatalf("%+v: it isn't right any more: %+v", r, next)
			}
			seen.see(t, next)
			apart(t, s, next, r, o)
			held(t, s, next, r, o)
			again(t, next, r, o)
			s = next
		}
	}
}

// turnOne turns one number, text or list of a state.
func turnOne(dice *rand.Rand, s *api.Mail) {
	odd := func() uint64 {
		return pick(dice, 0, 1, 2, uint64(dice.Intn(50)), 4096, 4097, maxUid-1, maxUid, maxUid+1, maxUid+2, maxSession-1, maxSession, maxSession+1, maxMod-1, maxMod, maxMod+1, maxNumber)
	}
	b := &s.Boxes[dice.Intn(len(s.Boxes))]
	x, h, y := &api.Letter{}, &api.Home{}, &api.Seat{}
	if len(b.Letters) > 0 {
		x = &b.Letters[dice.Intn(len(b.Letters))]
	}
	if len(s.Homes) > 0 {
		h = &s.Homes[dice.Intn(len(s.Homes))]
	}
	if len(s.Seats) > 0 {
		y = &s.Seats[dice.Intn(len(s.Seats))]
	}
	switch dice.Intn(24) {
	case 0:
		b.Name = pick(dice, append(names(), "", "inbox", "a*", "INBOX", "zz ")...)
	case 1:
		b.Validity = odd()
	case 2:
		b.Validity = pick(dice, s.Boxes...).Validity
	case 3:
		b.Next = odd()
	case 4:
		b.High = odd()
	case 5:
		x.Uid = odd()
	case 6:
		x.Uid = pick(dice, x.Uid+1, x.Uid-1, b.Next)
	case 7:
		x.Mod = pick(dice, odd(), b.High, b.High+1)
	case 8:
		x.Size = odd()
	case 9:
		x.Hash = pick(dice, "", x.Hash+"h", "h", hash(7))
	case 10:
		x.Flags = append(slices.Clone(x.Flags), pick(dice, `\Seen`, "z", "A", "a b", "", "ka"))
	case 11:
		dice.Shuffle(len(x.Flags), func(i, j int) { x.Flags[i], x.Flags[j] = x.Flags[j], x.Flags[i] })
	case 12:
		h.Node = pick(dice, -1, 0, 1, 2, 3, 4, 5, 6, 1<<32+1)
	case 13:
		h.Life = pick(dice, odd(), y.Life)
	case 14:
		h.Try = odd()
	case 15:
		y.Session = pick(dice, odd(), s.NextSession, y.Session+1)
	case 16:
		y.Node = pick(dice, 0, 1, 2, 3, 4, 5, 6)
	case 17:
		y.Life = pick(dice, odd(), y.Life+1, y.Life-1)
	case 18:
		y.Try = pick(dice, odd(), y.Try+1, y.Try-1)
	case 19:
		s.NextValidity = odd()
	case 20:
		s.NextSession = odd()
	case 21:
		s.Sweeps = odd()
	case 22:
		y.Last = odd()
	default:
		s.Boxes = slices.DeleteFunc(s.Boxes, func(b api.Box) bool { return b.Name == "INBOX" && dice.Intn(2) == 0 })
	}
}

// TestRightByDice: P18.1, states of which one thing was turned, by the other road.
func TestRightByDice(t *testing.T) {
	dice := rand.New(rand.NewSource(183))
	count := 0
	for range 20000 {
		s := someMail(dice)
		turnOne(dice, &s)
		want := otherRight(s)
		if got := mail.Right(s); got != want {
			t.Fatalf("Right says %t of %+v", got, s)
		}
		if want {
			count++
		}
	}
	if count < 2000 || count > 18000 {
		t.Errorf("%d of 20000 are right", count)
	}
}
