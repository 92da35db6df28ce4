package mail_test

import (
	"reflect"
	"slices"
	"strings"
	"testing"

	"posthorn/api"
	"posthorn/mail"
)

// TestNew: P18.1.
func TestNew(t *testing.T) {
	is(t, mail.New(), api.Mail{Boxes: []api.Box{{Name: "INBOX", Validity: 1, Next: 1, High: 1}}, NextValidity: 2, NextSession: 1})
	if !mail.Right(mail.New()) {
		t.Error("New isn't right")
	}
}

// given is a right state with something of each kind in it.
func given() api.Mail {
	return api.Mail{
		Boxes: []api.Box{
			{Name: "INBOX", Validity: 1, Next: 9, High: 12, Letters: []api.Letter{
				{Uid: 2, Flags: []string{`\Seen`, "work"}, Mod: 3, Hash: hash(1), Size: 10},
				{Uid: 3, Flags: nil, Mod: 12, Hash: hash(2), Size: 4096},
				{Uid: 7, Flags: []string{`\Deleted`, `\Seen`}, Mod: 7, Hash: hash(1), Size: 10},
			}},
			{Name: "a", Validity: 4, Next: 1, High: 1},
			{Name: "b/c d", Validity: 3, Next: 5, High: 6, Letters: []api.Letter{
				{Uid: 4, Flags: []string{`\Deleted`}, Mod: 6, Hash: hash(3), Size: 0},
			}},
		},
		NextValidity: 6,
		Homes:        []api.Home{{Node: 1, Life: 2, Try: 5}, {Node: 3, Life: 1, Try: 1}},
		Seats:        []api.Seat{{Session: 2, Last: 7, Node: 1, Life: 2, Try: 4}, {Session: 5, Last: 0, Node: 3, Life: 1, Try: 1}, {Session: 6, Last: 1, Node: 1, Life: 2, Try: 5}},
		NextSession:  8,
		Sweeps:       2,
	}
}

// changed is what is given, with something changed.
func changed(by func(s *api.Mail)) api.Mail {
	s := given()
	by(&s)
	return s
}

// rights checks what Right says, by the words and by the other road.
func rights(t *testing.T, what string, s api.Mail, want bool) {
	t.Helper()
	if got := mail.Right(s); got != want {
		t.Errorf("%s: Right says %t", what, got)
	}
	if otherRight(s) != want {
		t.Errorf("%s: the other road says another thing", what)
	}
}

// letters are so many letters of Uids from 1 on.
func letters(n int) []api.Letter {
	var l []api.Letter
	for i := range n {
		l = append(l, api.Letter{Uid: uint64(i + 1), Mod: 1, Hash: hash(i)})
	}
	return l
}

// boxes are INBOX and further mailboxes, so many in all, with Validities from 1 on.
func boxes(n int) []api.Box {
	l := []api.Box{{Name: "INBOX", Validity: 1, Next: 1, High: 1}}
	for i := 1; i < n; i++ {
		l = append(l, api.Box{Name: "b" + string(rune('0'+i)), Validity: uint64(i + 1), Next: 1, High: 1})
	}
	return l
}

// seats are so many seats of the nodes 1 and 2, with their homes.
func seats(n int) ([]api.Seat, []api.Home) {
	var l []api.Seat
	for i := range n {
		l = append(l, api.Seat{Session: uint64(i + 1), Node: i%2 + 1, Life: 1, Try: uint64(i/2 + 1)})
	}
	return l, []api.Home{{Node: 1, Life: 1, Try: 20}, {Node: 2, Life: 1, Try: 20}}
}

// flags are so many keywords, a set.
func flags(n int) []string {
	var l []string
	for i := range n {
		l = append(l, "k"+string(rune('a'+i)))
	}
	return l
}

// TestRight: P18.1, states that are right, at the edges.
func TestRight(t *testing.T) {
	for what, by := range map[string]func(s *api.Mail){
		"as it is":              func(s *api.Mail) {},
		"eight mailboxes":       func(s *api.Mail) { s.Boxes, s.NextValidity = boxes(8), 9 },
		"one mailbox":           func(s *api.Mail) { s.Boxes, s.NextValidity = boxes(1), 2 },
		"INBOX not the first":   func(s *api.Mail) { s.Boxes = append([]api.Box{{Name: "A", Validity: 5, Next: 1, High: 1}}, s.Boxes...) },
		"a name of one byte":    func(s *api.Mail) { s.Boxes[1].Name = "Z" },
		"a name of 64 bytes":    func(s *api.Mail) { s.Boxes[1].Name = strings.Repeat("a", 64) },
		"the greatest validity": func(s *api.Mail) { s.NextValidity, s.Boxes[1].Validity = maxUid+1, maxUid },
		"validities in no order": func(s *api.Mail) {
			s.Boxes[0].Validity, s.Boxes[1].Validity, s.Boxes[2].Validity = 5, 1, 3
		},
		"the greatest Next":    func(s *api.Mail) { s.Boxes[0].Next = maxUid + 1 },
		"the greatest Uid":     func(s *api.Mail) { s.Boxes[0].Next, s.Boxes[0].Letters[2].Uid = maxUid+1, maxUid },
		"Next 1":               func(s *api.Mail) { s.Boxes[0].Next, s.Boxes[0].Letters = 1, nil },
		"the least Uid":        func(s *api.Mail) { s.Boxes[0].Letters[0].Uid = 1 },
		"the greatest High":    func(s *api.Mail) { s.Boxes[0].High, s.Boxes[0].Letters[1].Mod = maxMod, maxMod },
		"the least Mod":        func(s *api.Mail) { s.Boxes[0].Letters[1].Mod = 1 },
		"the least High":       func(s *api.Mail) { s.Boxes[2].High, s.Boxes[2].Letters[0].Mod = 1, 1 },
		"32 letters":           func(s *api.Mail) { s.Boxes[0].Letters, s.Boxes[0].Next = letters(32), 33 },
		"16 flags":             func(s *api.Mail) { s.Boxes[0].Letters[0].Flags = flags(16) },
		"any 32 bytes":         func(s *api.Mail) { s.Boxes[0].Letters[0].Hash = strings.Repeat("\x00", 32) },
		"no homes, no seats":   func(s *api.Mail) { s.Homes, s.Seats = nil, nil },
		"homes without seats":  func(s *api.Mail) { s.Seats = nil },
		"five homes":           func(s *api.Mail) { s.Homes = fiveHomes() },
		"great lives":          func(s *api.Mail) { s.Homes[1].Life, s.Seats[1].Life = maxNumber, maxNumber },
		"great tries":          func(s *api.Mail) { s.Homes[1].Try, s.Seats[1].Try = maxNumber, maxNumber },
		"a lesser try":         func(s *api.Mail) { s.Homes[1].Try = 7 },
		"one try of two nodes": func(s *api.Mail) { s.Seats[0].Try, s.Homes[1].Try = 1, 9 },
		"any Last":             func(s *api.Mail) { s.Seats[1].Last = maxNumber },
		"16 seats":             func(s *api.Mail) { s.Seats, s.Homes = seats(16); s.NextSession = 17 },
		"the least session":    func(s *api.Mail) { s.Seats[0].Session = 1 },
		"the greatest session": func(s *api.Mail) { s.NextSession, s.Seats[2].Session = maxSession, maxSession-1 },
		"NextSession just so":  func(s *api.Mail) { s.NextSession = 7 },
		"NextSession 1":        func(s *api.Mail) { s.NextSession, s.Seats = 1, nil },
		"NextValidity just so": func(s *api.Mail) { s.NextValidity = 5 },
		"the greatest Sweeps":  func(s *api.Mail) { s.Sweeps = maxMod },
		"no Sweeps":            func(s *api.Mail) { s.Sweeps = 0 },
		"empty lists":          func(s *api.Mail) { s.Boxes[0].Letters[1].Flags, s.Boxes[1].Letters = []string{}, []api.Letter{} },
		"a letter of no bytes": func(s *api.Mail) { s.Boxes[0].Letters[0].Size = 0 },
		"flags of all sorts": func(s *api.Mail) {
			s.Boxes[0].Letters[0].Flags = []string{`\Answered`, `\Flagged`, `\Deleted`, `\Seen`, `\Draft`, "$a", "b"}
		},
		"a keyword of 32 bytes": func(s *api.Mail) { s.Boxes[0].Letters[0].Flags = []string{strings.Repeat("a", 32)} },
	} {
		rights(t, what, changed(by), true)
	}
}

// fiveHomes are homes of all nodes; those of 1 and 3 are as they are given.
func fiveHomes() []api.Home {
	return []api.Home{{Node: 1, Life: 2, Try: 5}, {Node: 2, Life: 9, Try: 1}, {Node: 3, Life: 1, Try: 1}, {Node: 4, Life: 1, Try: maxNumber}, {Node: 5, Life: maxNumber, Try: 1}}
}

// TestWrong: P18.1, states that aren't right, each by one thing.
func TestWrong(t *testing.T) {
	for what, by := range map[string]func(s *api.Mail){
		"no mailboxes":                  func(s *api.Mail) { s.Boxes = nil },
		"nine mailboxes":                func(s *api.Mail) { s.Boxes, s.NextValidity = boxes(9), 20 },
		"no INBOX":                      func(s *api.Mail) { s.Boxes = s.Boxes[1:] },
		"an inbox of small letters":     func(s *api.Mail) { s.Boxes[1].Name = "inbox" },
		"no INBOX but Inbox":            func(s *api.Mail) { s.Boxes[0].Name = "Inbox" },
		"a name that none may have":     func(s *api.Mail) { s.Boxes[1].Name = "a*" },
		"an empty name":                 func(s *api.Mail) { s.Boxes = append([]api.Box{{Validity: 5, Next: 1, High: 1}}, s.Boxes...) },
		"a name with a blank behind":    func(s *api.Mail) { s.Boxes[1].Name = "a " },
		"a name of 65 bytes":            func(s *api.Mail) { s.Boxes[1].Name = strings.Repeat("a", 65) },
		"a name of other bytes":         func(s *api.Mail) { s.Boxes[2].Name = "b\x7f" },
		"names that fall":               func(s *api.Mail) { s.Boxes[1].Name = "c" },
		"INBOX behind small letters":    func(s *api.Mail) { s.Boxes[0], s.Boxes[1] = s.Boxes[1], s.Boxes[0] },
		"a name that stands twice":      func(s *api.Mail) { s.Boxes[1].Name = "b/c d" },
		"INBOX twice":                   func(s *api.Mail) { s.Boxes[1].Name = "INBOX" },
		"Validity 0":                    func(s *api.Mail) { s.Boxes[1].Validity = 0 },
		"Validity of NextValidity":      func(s *api.Mail) { s.NextValidity = 4 },
		"one Validity of two":           func(s *api.Mail) { s.Boxes[1].Validity = 3 },
		"one Validity of two, apart":    func(s *api.Mail) { s.Boxes[2].Validity = 1 },
		"NextValidity above its limit":  func(s *api.Mail) { s.NextValidity = maxUid + 2 },
		"the greatest NextValidity":     func(s *api.Mail) { s.NextValidity = maxNumber },
		"NextValidity 0":                func(s *api.Mail) { s.NextValidity = 0 },
		"Next 0":                        func(s *api.Mail) { s.Boxes[1].Next = 0 },
		"Next above its limit":          func(s *api.Mail) { s.Boxes[1].Next = maxUid + 2 },
		"the greatest number as Next":   func(s *api.Mail) { s.Boxes[1].Next = maxNumber },
		"High 0":                        func(s *api.Mail) { s.Boxes[1].High = 0 },
		"High above its limit":          func(s *api.Mail) { s.Boxes[1].High = maxMod + 1 },
		"the greatest number as High":   func(s *api.Mail) { s.Boxes[1].High = maxNumber },
		"33 letters":                    func(s *api.Mail) { s.Boxes[0].Letters, s.Boxes[0].Next = letters(33), 99 },
		"Uid 0":                         func(s *api.Mail) { s.Boxes[0].Letters[0].Uid = 0 },
		"a Uid of Next":                 func(s *api.Mail) { s.Boxes[0].Next = 7 },
		"Uids that fall":                func(s *api.Mail) { s.Boxes[0].Letters[1].Uid = 1 },
		"one Uid of two":                func(s *api.Mail) { s.Boxes[0].Letters[1].Uid = 2 },
		"flags that are no set":         func(s *api.Mail) { s.Boxes[0].Letters[0].Flags = []string{"work", `\Seen`} },
		"a flag of great letters":       func(s *api.Mail) { s.Boxes[0].Letters[0].Flags = []string{"Work"} },
		"a flag that is none":           func(s *api.Mail) { s.Boxes[0].Letters[2].Flags = []string{"a b"} },
		"17 flags":                      func(s *api.Mail) { s.Boxes[0].Letters[0].Flags = flags(17) },
		"Mod 0":                         func(s *api.Mail) { s.Boxes[0].Letters[0].Mod = 0 },
		"Mod above High":                func(s *api.Mail) { s.Boxes[0].High = 11 },
		"a hash of 31 bytes":            func(s *api.Mail) { s.Boxes[0].Letters[0].Hash = hash(1)[1:] },
		"a hash of 33 bytes":            func(s *api.Mail) { s.Boxes[0].Letters[0].Hash = hash(1) + "h" },
		"no hash":                       func(s *api.Mail) { s.Boxes[2].Letters[0].Hash = "" },
		"a size above its limit":        func(s *api.Mail) { s.Boxes[0].Letters[1].Size = 4097 },
		"a great size":                  func(s *api.Mail) { s.Boxes[0].Letters[1].Size = maxNumber },
		"a home of node 0":              func(s *api.Mail) { s.Homes = append([]api.Home{{Life: 1, Try: 1}}, s.Homes...) },
		"a home of node -1":             func(s *api.Mail) { s.Homes = append([]api.Home{{Node: -1, Life: 1, Try: 1}}, s.Homes...) },
		"a home of node 6":              func(s *api.Mail) { s.Homes = append(s.Homes, api.Home{Node: 6, Life: 1, Try: 1}) },
		"homes that fall":               func(s *api.Mail) { s.Homes[0], s.Homes[1] = s.Homes[1], s.Homes[0] },
		"two homes of a node":           func(s *api.Mail) { s.Homes = append(s.Homes, s.Homes[1]) },
		"a home's Life 0":               func(s *api.Mail) { s.Homes = append(s.Homes, api.Home{Node: 5, Try: 1}) },
		"a home's Try 0":                func(s *api.Mail) { s.Homes = append(s.Homes, api.Home{Node: 5, Life: 1}) },
		"17 seats":                      func(s *api.Mail) { s.Seats, s.Homes = seats(17); s.NextSession = 99 },
		"session 0":                     func(s *api.Mail) { s.Seats[0].Session = 0 },
		"a session of NextSession":      func(s *api.Mail) { s.NextSession = 6 },
		"sessions that fall":            func(s *api.Mail) { s.Seats[1].Session = 1 },
		"one session of two":            func(s *api.Mail) { s.Seats[1].Session = 6 },
		"NextSession 0":                 func(s *api.Mail) { s.Seats, s.NextSession = nil, 0 },
		"NextSession above its limit":   func(s *api.Mail) { s.NextSession = maxSession + 1 },
		"the greatest as NextSession":   func(s *api.Mail) { s.NextSession = maxNumber },
		"a seat without a home":         func(s *api.Mail) { s.Homes = s.Homes[:1] },
		"seats without homes":           func(s *api.Mail) { s.Homes = nil },
		"a seat of a node without home": func(s *api.Mail) { s.Seats[1].Node = 2 },
		"a seat of an earlier life":     func(s *api.Mail) { s.Seats[0].Life = 1 },
		"a seat of a later life":        func(s *api.Mail) { s.Seats[0].Life = 3 },
		"a seat's Try 0":                func(s *api.Mail) { s.Seats[0].Try = 0 },
		"a seat's Try above its home's": func(s *api.Mail) { s.Seats[1].Try = 2 },
		"one Try of two seats":          func(s *api.Mail) { s.Seats[0].Try = 5 },
		"Sweeps above its limit":        func(s *api.Mail) { s.Sweeps = maxMod + 1 },
		"the greatest number as Sweeps": func(s *api.Mail) { s.Sweeps = maxNumber },
		"nothing":                       func(s *api.Mail) { *s = api.Mail{} },
	} {
		rights(t, what, changed(by), false)
	}
}

// TestFind: P18.1, the first mailbox of just that name, of any state.
func TestFind(t *testing.T) {
	s := given()
	for i, b := range given().Boxes {
		got, ok := mail.Find(s, b.Name)
		if !ok || !reflect.DeepEqual(deepBox(got), deepBox(given().Boxes[i])) {
			t.Errorf("%q: %+v, %t", b.Name, got, ok)
		}
	}
	for _, name := range []string{"", "inbox", "Inbox", "A", "b", "b/c", "b/c d ", "INBOX\x00", "c"} {
		if b, ok := mail.Find(s, name); ok || !reflect.DeepEqual(b, api.Box{}) {
			t.Errorf("%q: %+v, %t", name, b, ok)
		}
	}
	s.Boxes = append(s.Boxes, api.Box{Name: "a", Validity: 77}, api.Box{Name: "", Validity: 78})
	if b, ok := mail.Find(s, "a"); !ok || b.Validity != 4 {
		t.Errorf("the first of two: %+v, %t", b, ok)
	}
	if b, ok := mail.Find(s, ""); !ok || b.Validity != 78 {
		t.Errorf("one without a name: %+v, %t", b, ok)
	}
	if _, ok := mail.Find(api.Mail{}, ""); ok {
		t.Error("of nothing")
	}
}

// TestLast: P18.1, the first such seat's Last, of any state.
func TestLast(t *testing.T) {
	s := given()
	s.Seats = append(s.Seats, api.Seat{Session: 2, Last: 99}, api.Seat{Last: 98})
	for session, want := range map[uint64]uint64{2: 7, 5: 0, 6: 1, 0: 98} {
		if n, ok := mail.Last(s, session); !ok || n != want {
			t.Errorf("%d: %d, %t", session, n, ok)
		}
	}
	for _, session := range []uint64{0, 1, 3, 4, 7, 8, maxNumber} {
		if n, ok := mail.Last(given(), session); ok || n != 0 {
			t.Errorf("%d: %d, %t", session, n, ok)
		}
	}
}

// TestHashes: P18.1, rising byte by byte, each once, of all mailboxes.
func TestHashes(t *testing.T) {
	if l := mail.Hashes(given()); !slices.Equal(l, []string{hash(1), hash(2), hash(3)}) {
		t.Errorf("%q", l)
	}
	if l := mail.Hashes(mail.New()); len(l) != 0 {
		t.Errorf("%q", l)
	}
	s := changed(func(s *api.Mail) {
		s.Boxes[0].Letters[0].Hash, s.Boxes[0].Letters[1].Hash, s.Boxes[0].Letters[2].Hash = "\xff", "a", "B"
		s.Boxes[2].Letters = append(s.Boxes[2].Letters, api.Letter{Hash: ""}, api.Letter{Hash: "a"}, api.Letter{Hash: "\xfe\xff"}, api.Letter{Hash: "a\x00"})
	})
	if l := mail.Hashes(s); !slices.Equal(l, []string{"", "B", "a", "a\x00", hash(3), "\xfe\xff", "\xff"}) {
		t.Errorf("%q", l)
	}
}

// TestSame: P18.1, any field that is another one makes two states unlike.
func TestSame(t *testing.T) {
	is(t, given(), given())
	is(t, mail.New(), mail.New())
	is(t, api.Mail{}, api.Mail{Boxes: []api.Box{}, Homes: []api.Home{}, Seats: []api.Seat{}})
	is(t, given(), changed(func(s *api.Mail) { s.Boxes[1].Letters, s.Boxes[0].Letters[1].Flags = []api.Letter{}, []string{} }))
	for what, by := range map[string]func(s *api.Mail){
		"fewer mailboxes": func(s *api.Mail) { s.Boxes = s.Boxes[:2] },
		"more mailboxes":  func(s *api.Mail) { s.Boxes = append(s.Boxes, api.Box{}) },
		"their order":     func(s *api.Mail) { s.Boxes[0], s.Boxes[1] = s.Boxes[1], s.Boxes[0] },
		"Name":            func(s *api.Mail) { s.Boxes[2].Name = "b/c D" },
		"Validity":        func(s *api.Mail) { s.Boxes[2].Validity++ },
		"Next":            func(s *api.Mail) { s.Boxes[2].Next++ },
		"High":            func(s *api.Mail) { s.Boxes[2].High++ },
		"fewer letters":   func(s *api.Mail) { s.Boxes[2].Letters = nil },
		"more letters":    func(s *api.Mail) { s.Boxes[1].Letters = make([]api.Letter, 1) },
		"Uid":             func(s *api.Mail) { s.Boxes[0].Letters[2].Uid++ },
		"Flags":           func(s *api.Mail) { s.Boxes[0].Letters[2].Flags[1] = `\Draft` },
		"fewer Flags":     func(s *api.Mail) { s.Boxes[0].Letters[2].Flags = s.Boxes[0].Letters[2].Flags[:1] },
		"more Flags":      func(s *api.Mail) { s.Boxes[0].Letters[1].Flags = []string{""} },
		"Mod":             func(s *api.Mail) { s.Boxes[0].Letters[2].Mod++ },
		"Hash":            func(s *api.Mail) { s.Boxes[0].Letters[2].Hash = hash(9) },
		"Size":            func(s *api.Mail) { s.Boxes[0].Letters[2].Size++ },
		"NextValidity":    func(s *api.Mail) { s.NextValidity++ },
		"fewer homes":     func(s *api.Mail) { s.Homes = s.Homes[:1] },
		"a home's Node":   func(s *api.Mail) { s.Homes[1].Node++ },
		"a home's Life":   func(s *api.Mail) { s.Homes[1].Life++ },
		"a home's Try":    func(s *api.Mail) { s.Homes[1].Try++ },
		"fewer seats":     func(s *api.Mail) { s.Seats = s.Seats[:2] },
		"Session":         func(s *api.Mail) { s.Seats[1].Session-- },
		"Last":            func(s *api.Mail) { s.Seats[1].Last++ },
		"a seat's Node":   func(s *api.Mail) { s.Seats[1].Node++ },
		"a seat's Life":   func(s *api.Mail) { s.Seats[1].Life++ },
		"a seat's Try":    func(s *api.Mail) { s.Seats[1].Try++ },
		"NextSession":     func(s *api.Mail) { s.NextSession++ },
		"Sweeps":          func(s *api.Mail) { s.Sweeps++ },
	} {
		if s := changed(by); mail.Same(s, given()) || mail.Same(given(), s) {
			t.Errorf("%s: they are the same", what)
		}
	}
}
