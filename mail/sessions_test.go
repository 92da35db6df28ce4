package mail_test

import (
	"reflect"
	"slices"
	"testing"

	"posthorn/api"
	"posthorn/mail"
)

// does checks that an operation comes to an outcome and a state, by the words and by the other road, and tells the state.
func does(t *testing.T, s api.Mail, r api.Request, want api.Outcome, then api.Mail) api.Mail {
	t.Helper()
	if !mail.Right(s) {
		t.Fatalf("a state that isn't right: %+v", s)
	}
	was, wasR := deep(s), deepRequest(r)
	next, o := mail.Apply(s, r)
	if !reflect.DeepEqual(deepOutcome(o), deepOutcome(want)) {
		t.Fatalf("%+v: %+v; must be %+v", r, o, want)
	}
	is(t, next, then)
	is(t, s, was)
	if !reflect.DeepEqual(deepRequest(r), wasR) {
		t.Fatalf("%+v was turned", wasR)
	}
	if otherNext, other := otherApply(s, r); !reflect.DeepEqual(other, deepOutcome(want)) || !reflect.DeepEqual(deep(otherNext), deep(then)) {
		t.Fatalf("%+v: by the other road %+v,\n%+v", r, other, otherNext)
	}
	if !mail.Right(next) {
		t.Fatalf("%+v: it isn't right any more: %+v", r, next)
	}
	return next
}

// stays checks that an operation is refused, and turns nothing.
func stays(t *testing.T, s api.Mail, r api.Request, e api.Errno) {
	t.Helper()
	does(t, s, r, api.Outcome{Code: e}, s)
}

// counted is a state in which a session's request was counted, and nothing else done.
func counted(s api.Mail, r api.Request) api.Mail {
	s = deep(s)
	for i := range s.Seats {
		if s.Seats[i].Session == r.Session {
			s.Seats[i].Last = r.Number
		}
	}
	return s
}

// refuses checks that an operation is refused, and turns nothing but Last.
func refuses(t *testing.T, s api.Mail, r api.Request, e api.Errno) {
	t.Helper()
	does(t, s, r, api.Outcome{Code: e}, counted(s, r))
}

// then is a state, with its request counted, and something changed.
func then(s api.Mail, r api.Request, by func(s *api.Mail)) api.Mail {
	s = counted(s, r)
	by(&s)
	return s
}

// opens is a request for a seat.
func opens(node int, life, try uint64) api.Request {
	return api.Request{Op: api.OpOpen, Node: node, Life: life, Try: try}
}

// of makes a request one of the session 2 of what is given, above its Last.
func of(r api.Request) api.Request {
	r.Session, r.Number = 2, 8
	return r
}

// manyRanges are so many ranges.
func manyRanges(n int) []api.Range { return slices.Repeat([]api.Range{{From: 1, To: 0}}, n) }

// TestNoOperation: P18.2, an Op that is none of the ten, or too many ranges, whatever else is wrong.
func TestNoOperation(t *testing.T) {
	for _, op := range []int{0, -1, 11, 12, 100, -1 << 63, 1<<63 - 1, 1 << 32, 1<<32 + 1} {
		stays(t, given(), of(api.Request{Op: op}), api.ErrArg)
		stays(t, given(), api.Request{Op: op, Session: 99}, api.ErrArg)
	}
	for op := 1; op <= 10; op++ {
		for _, n := range []int{65, 66, 1000} {
			stays(t, given(), of(api.Request{Op: op, Uids: manyRanges(n), Node: 2, Life: 1, Try: 1, Box: "INBOX", Validity: 1, To: "a", Hash: hash(1), Sweeps: 2}), api.ErrArg)
			stays(t, given(), api.Request{Op: op, Uids: manyRanges(n), Session: 99}, api.ErrArg)
			stays(t, given(), api.Request{Op: op, Uids: manyRanges(n), Session: 2, Number: 7}, api.ErrArg)
		}
	}
	r := of(api.Request{Op: api.OpLook, Uids: manyRanges(64)})
	does(t, given(), r, api.Outcome{}, counted(given(), r))
	r = api.Request{Op: api.OpSweep, Uids: manyRanges(64)}
	does(t, given(), r, api.Outcome{}, then(given(), r, func(s *api.Mail) { s.Sweeps = 3 }))
}

// TestOpenFaults: P18.2, ErrArg ahead of all else.
func TestOpenFaults(t *testing.T) {
	full := changed(func(s *api.Mail) { s.NextSession = maxSession })
	for _, s := range []api.Mail{given(), mail.New(), full} {
		for _, node := range []int{0, -1, 6, 7, 1 << 32, 1<<32 + 1, -1 << 63, 1<<63 - 1} {
			stays(t, s, opens(node, 1, 1), api.ErrArg)
		}
		for node := 1; node <= 5; node++ {
			stays(t, s, opens(node, 0, 1), api.ErrArg)
			stays(t, s, opens(node, 1, 0), api.ErrArg)
			stays(t, s, opens(node, 0, 0), api.ErrArg)
		}
	}
}

// TestOpen: P18.2, a seat for a try that wasn't made; what else a request says counts for nothing.
func TestOpen(t *testing.T) {
	does(t, mail.New(), opens(1, 1, 1), api.Outcome{Session: 1}, api.Mail{
		Boxes: mail.New().Boxes, NextValidity: 2, NextSession: 2,
		Homes: []api.Home{{Node: 1, Life: 1, Try: 1}}, Seats: []api.Seat{{Session: 1, Node: 1, Life: 1, Try: 1}},
	})
	// a later try of the life
	for _, try := range []uint64{6, 7, 100, 1 << 32, maxNumber} {
		does(t, given(), opens(1, 2, try), api.Outcome{Session: 8}, changed(func(s *api.Mail) {
			s.Seats = append(s.Seats, api.Seat{Session: 8, Node: 1, Life: 2, Try: try})
			s.Homes[0].Try, s.NextSession = try, 9
		}))
	}
	// a later life: the node's seats go, those of others stay
	for _, life := range []uint64{3, 9, 1 << 32, maxNumber} {
		for _, try := range []uint64{1, 4, 5, 6, maxNumber} {
			does(t, given(), opens(1, life, try), api.Outcome{Session: 8}, changed(func(s *api.Mail) {
				s.Seats = []api.Seat{s.Seats[1], {Session: 8, Node: 1, Life: life, Try: try}}
				s.Homes[0], s.NextSession = api.Home{Node: 1, Life: life, Try: try}, 9
			}))
		}
	}
	// a node without a home, ahead of all, between two, behind all
	for _, node := range []int{2, 4, 5} {
		does(t, given(), opens(node, 7, 3), api.Outcome{Session: 8}, changed(func(s *api.Mail) {
			s.Seats = append(s.Seats, api.Seat{Session: 8, Node: node, Life: 7, Try: 3})
			s.Homes, s.NextSession = slices.Insert(s.Homes, 1+node/4, api.Home{Node: node, Life: 7, Try: 3}), 9
		}))
	}
	ahead := changed(func(s *api.Mail) { s.Homes, s.Seats = s.Homes[1:], s.Seats[1:2] })
	does(t, ahead, opens(1, 7, 3), api.Outcome{Session: 8}, changed(func(s *api.Mail) {
		s.Seats = []api.Seat{s.Seats[1], {Session: 8, Node: 1, Life: 7, Try: 3}}
		s.Homes[0], s.NextSession = api.Home{Node: 1, Life: 7, Try: 3}, 9
	}))
	r := opens(3, 1, 2)
	r.Session, r.Number, r.Box, r.Flags, r.Since, r.Hash, r.Uids = 6, 1, "x*", []string{"a b"}, 4, "h", manyRanges(64)
	does(t, given(), r, api.Outcome{Session: 8}, changed(func(s *api.Mail) {
		s.Seats = append(s.Seats, api.Seat{Session: 8, Node: 3, Life: 1, Try: 2})
		s.Homes[1].Try, s.NextSession = 2, 9
	}))
}

// TestOpenAgain: P18.2, P18.4, a try that was made tells its session, or ErrOld; nothing turns.
func TestOpenAgain(t *testing.T) {
	for _, s := range []api.Mail{given(), changed(func(s *api.Mail) { s.NextSession = maxSession })} {
		does(t, s, opens(1, 2, 4), api.Outcome{Session: 2}, s)
		does(t, s, opens(1, 2, 5), api.Outcome{Session: 6}, s)
		does(t, s, opens(3, 1, 1), api.Outcome{Session: 5}, s)
		for try := uint64(1); try <= 3; try++ {
			stays(t, s, opens(1, 2, try), api.ErrOld) // their seats are gone
		}
		for _, try := range []uint64{1, 4, 5, 6, maxNumber} {
			stays(t, s, opens(1, 1, try), api.ErrOld) // an earlier life
		}
	}
	s := changed(func(s *api.Mail) { s.Homes = append(s.Homes, api.Home{Node: 5, Life: maxNumber, Try: maxNumber}) })
	stays(t, s, opens(5, maxNumber, maxNumber), api.ErrOld)
	stays(t, s, opens(5, maxNumber-1, 1), api.ErrOld)
	s = changed(func(s *api.Mail) { s.Seats = s.Seats[1:] })
	stays(t, s, opens(1, 2, 4), api.ErrOld)
	does(t, s, opens(1, 2, 5), api.Outcome{Session: 6}, s)
	// one that was opened, ended, and asked for again
	s, _ = mail.Apply(mail.New(), opens(2, 1, 1))
	s = does(t, s, opens(2, 1, 1), api.Outcome{Session: 1}, s)
	s, _ = mail.Apply(s, api.Request{Op: api.OpEnd, Session: 1, Number: 1})
	stays(t, s, opens(2, 1, 1), api.ErrOld)
}

// TestOpenFull: P18.2, no room for a seat, or no number: then the seats of an earlier life stay, too.
func TestOpenFull(t *testing.T) {
	s := changed(func(s *api.Mail) { s.Seats, s.Homes = seats(16); s.NextSession = 17 })
	stays(t, s, opens(3, 1, 1), api.ErrFull)
	stays(t, s, opens(1, 1, 21), api.ErrFull)
	does(t, s, opens(1, 1, 8), api.Outcome{Session: 15}, s)
	stays(t, s, opens(1, 1, 9), api.ErrOld)
	does(t, s, opens(1, 2, 1), api.Outcome{Session: 17}, then(s, api.Request{}, func(s *api.Mail) {
		s.Seats = slices.DeleteFunc(s.Seats, func(x api.Seat) bool { return x.Node == 1 })
		s.Seats = append(s.Seats, api.Seat{Session: 17, Node: 1, Life: 2, Try: 1})
		s.Homes[0], s.NextSession = api.Home{Node: 1, Life: 2, Try: 1}, 18
	}))
	one := changed(func(s *api.Mail) { s.Seats, s.Homes = seats(15); s.NextSession = 17 })
	does(t, one, opens(3, 1, 1), api.Outcome{Session: 17}, then(one, api.Request{}, func(s *api.Mail) {
		s.Seats = append(s.Seats, api.Seat{Session: 17, Node: 3, Life: 1, Try: 1})
		s.Homes, s.NextSession = append(s.Homes, api.Home{Node: 3, Life: 1, Try: 1}), 18
	}))
	// 16 seats, none of the node: a later life of it frees none
	others := changed(func(s *api.Mail) {
		s.Seats, s.Homes = seats(16)
		s.Homes, s.NextSession = append(s.Homes, api.Home{Node: 4, Life: 1, Try: 1}), 17
	})
	stays(t, others, opens(4, 2, 1), api.ErrFull)
	stays(t, others, opens(4, 1, 1), api.ErrOld)
	spent := changed(func(s *api.Mail) { s.NextSession = maxSession })
	for _, r := range []api.Request{opens(1, 2, 6), opens(1, 3, 1), opens(2, 1, 1)} {
		stays(t, spent, r, api.ErrFull)
	}
	last := changed(func(s *api.Mail) { s.NextSession = maxSession - 1 })
	last = does(t, last, opens(1, 3, 1), api.Outcome{Session: maxSession - 1}, then(last, api.Request{}, func(s *api.Mail) {
		s.Seats = []api.Seat{s.Seats[1], {Session: maxSession - 1, Node: 1, Life: 3, Try: 1}}
		s.Homes[0], s.NextSession = api.Home{Node: 1, Life: 3, Try: 1}, maxSession
	}))
	stays(t, last, opens(1, 3, 2), api.ErrFull)
	stays(t, last, opens(1, 4, 1), api.ErrFull)
}

// TestSweep: P18.2, of no session.
func TestSweep(t *testing.T) {
	r := api.Request{Op: api.OpSweep}
	for _, n := range []uint64{0, 1, 1 << 32, maxMod - 1} {
		s := changed(func(s *api.Mail) { s.Sweeps = n })
		for _, r := range []api.Request{r, {Op: api.OpSweep, Session: 2, Number: 1}, {Op: api.OpSweep, Session: 77, Node: 9, Box: "*", Flags: []string{""}, Sweeps: 9}} {
			does(t, s, r, api.Outcome{}, then(s, api.Request{}, func(s *api.Mail) { s.Sweeps = n + 1 }))
		}
	}
	stays(t, changed(func(s *api.Mail) { s.Sweeps = maxMod }), r, api.ErrSpent)
}

// TestSeats: P18.2, each operation of a session asks for a seat, and a Number above its last one, ahead of all else.
func TestSeats(t *testing.T) {
	for op := 2; op <= 9; op++ {
		for _, r := range []api.Request{{}, {Box: "INBOX", Validity: 1, To: "a", Hash: hash(1), Sweeps: 2}, {Box: "new", Validity: 4}, {Box: "a", Validity: 4, How: 9}, {Node: 1, Life: 2, Try: 4}} {
			r.Op, r.Number = op, 9
			for _, session := range []uint64{0, 1, 3, 4, 7, 8, maxNumber} {
				r.Session = session
				stays(t, given(), r, api.ErrSeat)
			}
			r.Session = 2
			for n := range uint64(8) {
				r.Number = n
				stays(t, given(), r, api.ErrOld)
			}
			r.Session, r.Number = 5, 0
			stays(t, given(), r, api.ErrOld)
			r.Session, r.Number = 6, 1
			stays(t, given(), r, api.ErrOld)
			far := changed(func(s *api.Mail) { s.Seats[2].Last = maxNumber })
			for _, n := range []uint64{0, 1, maxMod, maxMod + 1, maxNumber} {
				r.Number = n
				stays(t, far, r, api.ErrOld)
			}
		}
	}
}

// TestLookAndEnd: P18.2, a request is counted, or its seat is gone.
func TestLookAndEnd(t *testing.T) {
	for i, x := range given().Seats {
		for _, n := range []uint64{x.Last + 1, x.Last + 2, 1000, 1 << 32, maxMod, maxMod + 1, maxNumber} {
			r := api.Request{Op: api.OpLook, Session: x.Session, Number: n}
			s := does(t, given(), r, api.Outcome{}, counted(given(), r))
			stays(t, s, r, api.ErrOld)
			if last, ok := mail.Last(s, x.Session); last != n || !ok {
				t.Errorf("Last is %d, %t", last, ok)
			}
			r.Op = api.OpEnd
			stays(t, s, r, api.ErrOld)
			s = does(t, given(), r, api.Outcome{}, changed(func(s *api.Mail) { s.Seats = slices.Delete(s.Seats, i, i+1) }))
			stays(t, s, r, api.ErrSeat)
			if last, ok := mail.Last(s, x.Session); last != 0 || ok {
				t.Errorf("Last is %d, %t", last, ok)
			}
		}
	}
	r := of(api.Request{Op: api.OpLook, Box: "*", Flags: []string{""}, How: 7, Hash: "h", Node: 9, Sweeps: 5})
	does(t, given(), r, api.Outcome{}, counted(given(), r))
	r.Op = api.OpEnd
	does(t, given(), r, api.Outcome{}, changed(func(s *api.Mail) { s.Seats = s.Seats[1:] }))
}
