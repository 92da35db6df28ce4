package mail_test

import (
	"math/rand"
	"reflect"
	"slices"
	"strings"
	"testing"
	"time"
	"unsafe"

	"posthorn/api"
	"posthorn/mail"
)

// turnText turns a text's bytes, which must not be a constant's (nor a single byte's, of which the language has some ready).
func turnText(s string) {
	b := unsafe.Slice(unsafe.StringData(s), len(s))
	for i := range b {
		b[i] ^= 1
	}
}

// fill writes over a list, and over the room behind it.
func fill[T any](l []T, x T) {
	l = l[:cap(l)]
	for i := range l {
		l[i] = x
	}
}

// turnFlags turns flags, but the texts of those of the system, which may be constants.
func turnFlags(l []string) {
	for _, f := range l {
		if rank(f) == 5 {
			turnText(f)
		}
	}
	fill(l, "turned")
}

func turnLetter(x api.Letter) {
	turnFlags(x.Flags)
	turnText(x.Hash)
}

func turnBox(b api.Box) {
	turnText(b.Name)
	for _, x := range b.Letters {
		turnLetter(x)
	}
	fill(b.Letters, api.Letter{Uid: 99})
}

// turn turns all of a state's memory.
func turn(s api.Mail) {
	for _, b := range s.Boxes {
		turnBox(b)
	}
	fill(s.Boxes, api.Box{Name: "turned"})
	fill(s.Homes, api.Home{Node: 99})
	fill(s.Seats, api.Seat{Session: 99})
}

func turnRequest(r api.Request) {
	turnText(r.Box)
	turnText(r.To)
	turnText(r.Hash)
	fill(r.Uids, api.Range{From: 99})
	turnFlags(r.Flags)
}

// spare is the same list with room behind it, in which something stands.
func spare[T any](l []T, x T) []T {
	return slices.Concat(l, slices.Repeat([]T{x}, 9))[: len(l) : len(l)+5]
}

// spareMail is the same state in memory of its own, with room behind its lists.
func spareMail(s api.Mail) api.Mail {
	s = deep(s)
	for i := range s.Boxes {
		b := &s.Boxes[i]
		for j := range b.Letters {
			b.Letters[j].Flags = spare(b.Letters[j].Flags, "spare")
		}
		b.Letters = spare(b.Letters, api.Letter{Uid: 98})
	}
	s.Boxes, s.Homes, s.Seats = spare(s.Boxes, api.Box{Name: "spare"}), spare(s.Homes, api.Home{Node: 98}), spare(s.Seats, api.Seat{Session: 98})
	return s
}

func spareRequest(r api.Request) api.Request {
	r = deepRequest(r)
	r.Uids, r.Flags = spare(r.Uids, api.Range{From: 98}), spare(r.Flags, "spare")
	return r
}

// whole is a state in memory of its own, with the room behind its lists.
func whole(s api.Mail) api.Mail {
	var l []api.Box
	for _, b := range s.Boxes[:cap(s.Boxes)] {
		var of []api.Letter
		for _, x := range b.Letters[:cap(b.Letters)] {
			x.Flags = x.Flags[:cap(x.Flags)]
			of = append(of, x)
		}
		b.Letters = of
		l = append(l, b)
	}
	s.Boxes, s.Homes, s.Seats = l, s.Homes[:cap(s.Homes)], s.Seats[:cap(s.Seats)]
	return deep(s)
}

func wholeRequest(r api.Request) api.Request {
	r.Uids, r.Flags = r.Uids[:cap(r.Uids)], r.Flags[:cap(r.Flags)]
	return deepRequest(r)
}

// apartLists checks that no two lists of an answer share memory; it writes over all of them.
func apartLists(t *testing.T, s api.Mail, o api.Outcome) {
	t.Helper()
	was := deepOutcome(o)
	fill(s.Homes, api.Home{Node: 99})
	fill(s.Seats, api.Seat{Session: 99})
	for i := range s.Boxes {
		for j, x := range s.Boxes[i].Letters {
			rest := deepTexts(flagsBehind(s, i, j))
			fill(x.Flags, "turned")
			if !reflect.DeepEqual(deepTexts(flagsBehind(s, i, j)), rest) {
				t.Fatalf("lists of flags share memory")
			}
		}
	}
	for i, b := range s.Boxes {
		rest := deep(api.Mail{Boxes: s.Boxes[i+1:]})
		fill(b.Letters, api.Letter{Uid: 99})
		if !reflect.DeepEqual(deep(api.Mail{Boxes: s.Boxes[i+1:]}), rest) {
			t.Fatalf("lists of letters share memory")
		}
	}
	if !reflect.DeepEqual(deepOutcome(o), was) {
		t.Fatalf("an outcome shares memory with a state")
	}
	fill(o.Uids, 99)
	if !reflect.DeepEqual(deepOutcome(o).Modified, was.Modified) {
		t.Fatalf("an outcome's lists share memory")
	}
}

// flagsBehind are all flags of the letters behind a letter.
func flagsBehind(s api.Mail, box, letter int) []string {
	var l []string
	for i := box; i < len(s.Boxes); i++ {
		for j, x := range s.Boxes[i].Letters {
			if i > box || j > letter {
				l = append(l, x.Flags...)
			}
		}
	}
	return l
}

// TestKeepsNone: P18.2, what is handed in stays, the room behind its lists too, and what is told is new memory, each list apart from the others.
func TestKeepsNone(t *testing.T) {
	dice := rand.New(rand.NewSource(184))
	for range 2500 {
		s := someMail(dice)
		r := someRequest(dice, s)
		in, req := spareMail(s), spareRequest(r)
		wasIn, wasReq := whole(in), wholeRequest(req)
		next, o := mail.Apply(in, req)
		wasNext, wasO := deep(next), deepOutcome(o)
		turn(next)
		fill(o.Uids, 99)
		fill(o.Modified, 99)
		if !reflect.DeepEqual(whole(in), wasIn) || !reflect.DeepEqual(wholeRequest(req), wasReq) {
			t.Fatalf("%+v shares what it was handed", r)
		}
		next, o = mail.Apply(in, req)
		apartLists(t, next, o)
		next, o = mail.Apply(in, req)
		turn(in)
		turnRequest(req)
		is(t, next, wasNext)
		if !reflect.DeepEqual(deepOutcome(o), wasO) {
			t.Fatalf("%+v: the outcome shares what it was handed", r)
		}
	}
}

// TestTellsNew: P18.1, so it is with the other calls.
func TestTellsNew(t *testing.T) {
	s := spareMail(given())
	was := whole(s)
	for _, b := range given().Boxes {
		got, _ := mail.Find(s, b.Name)
		turnBox(got)
		for _, l := range [][]string{mail.Hashes(s), mail.Hashes(s)} {
			for _, h := range l {
				turnText(h)
			}
			fill(l, "turned")
		}
		mail.Right(s)
		mail.Same(s, s)
		mail.Last(s, 2)
		if !reflect.DeepEqual(whole(s), was) {
			t.Fatal("what was handed in was turned")
		}
		other := spareMail(given())
		kept, _ := mail.Find(other, b.Name)
		hashes := mail.Hashes(other)
		turn(other)
		if !reflect.DeepEqual(deepBox(kept), deepBox(b)) || !slices.Equal(hashes, mail.Hashes(given())) {
			t.Fatal("what is told shares what was handed in")
		}
	}
	a, b := mail.New(), mail.New()
	fill(a.Boxes, api.Box{})
	is(t, b, mail.New())
}

// TestSameAgain: what is answered hangs on what was handed in alone.
func TestSameAgain(t *testing.T) {
	dice := rand.New(rand.NewSource(185))
	for range 500 {
		s := someMail(dice)
		r := someRequest(dice, s)
		next, o := mail.Apply(s, r)
		for range 3 {
			mail.Apply(next, someRequest(dice, s))
			again, other := mail.Apply(s, r)
			is(t, again, next)
			if !reflect.DeepEqual(deepOutcome(other), deepOutcome(o)) {
				t.Fatalf("%+v: %+v, then %+v", r, o, other)
			}
		}
	}
}

// TestWrongStates: of states that aren't right the calls end, and what is handed in stays.
func TestWrongStates(t *testing.T) {
	dice := rand.New(rand.NewSource(186))
	odd := func() uint64 {
		return pick[uint64](dice, 0, 1, 2, 3, maxUid, maxUid+1, maxSession, maxMod, maxMod+1, maxNumber-1, maxNumber)
	}
	oddInt := func() int { return pick(dice, -1<<63, -1, 0, 1, 2, 5, 6, 1<<63-1) }
	for range 20000 {
		s := someMail(dice)
		for range 1 + dice.Intn(3) {
			turnOne(dice, &s)
			if len(s.Boxes) == 0 {
				s.Boxes = make([]api.Box, 1)
			}
		}
		if dice.Intn(4) == 0 {
			s.Boxes = append(s.Boxes, s.Boxes...)
			s.Seats, s.Homes = append(s.Seats, s.Seats...), append(s.Homes, api.Home{Node: oddInt(), Life: odd(), Try: odd()})
			dice.Shuffle(len(s.Homes), func(i, j int) { s.Homes[i], s.Homes[j] = s.Homes[j], s.Homes[i] })
			dice.Shuffle(len(s.Boxes), func(i, j int) { s.Boxes[i], s.Boxes[j] = s.Boxes[j], s.Boxes[i] })
		}
		r := someRequest(dice, s)
		if dice.Intn(4) == 0 {
			r.Node, r.Life, r.Try = oddInt(), odd(), odd()
		}
		was, wasR := deep(s), deepRequest(r)
		mail.Apply(s, r)
		mail.Right(s)
		mail.Hashes(s)
		mail.Find(s, r.Box)
		mail.Last(s, r.Session)
		if !mail.Same(s, s) || !mail.Same(s, was) {
			t.Fatal("it isn't the same as itself")
		}
		if !reflect.DeepEqual(deep(s), was) || !reflect.DeepEqual(deepRequest(r), wasR) {
			t.Fatal("what was handed in was turned")
		}
	}
	for op := -1; op <= 12; op++ {
		mail.Apply(api.Mail{}, api.Request{Op: op})
		mail.Apply(api.Mail{}, api.Request{Op: op, Node: 1, Life: 1, Try: 1, Session: 1, Number: 1})
		mail.Apply(api.Mail{Seats: []api.Seat{{}}, Boxes: []api.Box{{}}}, api.Request{Op: op, Number: 1, Node: 1, Life: 1, Try: 1, Uids: ranges(0, 0), Hash: hash(1)})
	}
}

// TestLong: the calls end soon, however much they are handed.
func TestLong(t *testing.T) {
	if testing.Short() {
		t.Skip("it takes seconds")
	}
	started := time.Now()
	const n = 1 << 18
	long := strings.Repeat("a", 1<<28)
	refuses(t, given(), creates(long), api.ErrArg)
	r := brings("a")
	r.Hash = long
	if _, o := mail.Apply(given(), r); o.Code != api.ErrArg {
		t.Error(o.Code)
	}
	for _, l := range [][]string{{long}, make([]string, n), slices.Repeat([]string{"a"}, n)} {
		if _, o := mail.Apply(given(), brings("a", l...)); o.Code != api.ErrArg {
			t.Error(o.Code)
		}
		if _, o := mail.Apply(given(), stores(1, l, 1, 0)); o.Code != api.ErrArg {
			t.Error(o.Code)
		}
	}
	if _, o := mail.Apply(given(), of(api.Request{Op: api.OpStore, Uids: make([]api.Range, n)})); o.Code != api.ErrArg {
		t.Error(o.Code)
	}
	for _, s := range []api.Mail{
		{Boxes: make([]api.Box, n)}, {Boxes: []api.Box{{Name: "INBOX", Letters: make([]api.Letter, n)}}}, {Homes: make([]api.Home, n)}, {Seats: make([]api.Seat, n)},
		{Boxes: []api.Box{{Name: "INBOX", Validity: 1, Next: 2, High: 1, Letters: []api.Letter{{Uid: 1, Flags: make([]string, n)}}}}, NextValidity: 2, NextSession: 1},
	} {
		for op := 1; op <= 10; op++ {
			mail.Apply(s, api.Request{Op: op, Box: "INBOX", Node: 1, Life: 1, Try: 1, Number: 1, Uids: ranges(1, 0)})
		}
		if mail.Right(s) || !mail.Same(s, s) {
			t.Error("it is right")
		}
		mail.Hashes(s)
	}
	if took := time.Since(started); took > 20*time.Second {
		t.Errorf("took %s", took)
	}
}
