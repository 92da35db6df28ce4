package mail_test

import (
	"slices"
	"strings"
	"testing"

	"posthorn/api"
	"posthorn/mail"
)

func creates(name string) api.Request { return of(api.Request{Op: api.OpCreate, Box: name}) }

func deletes(name string) api.Request { return of(api.Request{Op: api.OpDelete, Box: name}) }

// brings is an append of a letter with the hash 5.
func brings(name string, flags ...string) api.Request {
	return of(api.Request{Op: api.OpAppend, Box: name, Flags: flags, Hash: hash(5), Size: 5, Sweeps: 2})
}

// TestCreate: P18.2, a mailbox in its place by names.
func TestCreate(t *testing.T) {
	for at, names := range [][]string{{"A", "0", "!", "INBO", "#"}, {"INBOX ~", "INBOX/a", "INbox a", "Z", "[", "_"}, {"aa", "a/b", "b", "b/c", "b/a", "b/c "}, {"b/c da", "b/d", "c", "~"}} {
		for _, name := range names {
			r := creates(name)
			if strings.HasSuffix(name, " ") {
				refuses(t, given(), r, api.ErrArg)
				continue
			}
			s := does(t, given(), r, api.Outcome{Validity: 6}, then(given(), r, func(s *api.Mail) {
				s.Boxes = slices.Insert(s.Boxes, at, api.Box{Name: name, Validity: 6, Next: 1, High: 1})
				s.NextValidity = 7
			}))
			stays(t, s, r, api.ErrOld)
			r.Number++
			refuses(t, s, r, api.ErrTwice)
		}
	}
	for _, name := range []string{"INBOX", "a", "b/c d"} {
		refuses(t, given(), creates(name), api.ErrTwice)
	}
}

// TestCreateNames: P18.2, ErrArg of what isn't a name as layer 4 tells it.
func TestCreateNames(t *testing.T) {
	for _, name := range []string{"", " ", "inbox", "Inbox", "INBOx", " a", "a ", "a*", "%", "a\"", "\\", "a\x00", "\x7f", "é", "a\r\n", strings.Repeat("a", 65), strings.Repeat("a", 1<<20)} {
		refuses(t, given(), creates(name), api.ErrArg)
	}
	for b := range 256 {
		for _, name := range []string{"x" + string([]byte{byte(b)}) + "y", string([]byte{byte(b)}), "z" + string([]byte{byte(b)})} {
			_, o := mail.Apply(given(), creates(name))
			want := api.ErrArg
			if isName(name) {
				want = api.OK
			}
			if name == "a" {
				want = api.ErrTwice
			}
			if o.Code != want {
				t.Errorf("%q: %d", name, o.Code)
			}
		}
	}
	long := strings.Repeat("z", 64)
	r := creates(long)
	does(t, given(), r, api.Outcome{Validity: 6}, then(given(), r, func(s *api.Mail) {
		s.Boxes, s.NextValidity = append(s.Boxes, api.Box{Name: long, Validity: 6, Next: 1, High: 1}), 7
	}))
}

// TestCreateBounds: P18.2, P18.5, as many mailboxes and Validities as there may be; the errors in their order.
func TestCreateBounds(t *testing.T) {
	full := changed(func(s *api.Mail) { s.Boxes, s.NextValidity = boxes(8), 9 })
	refuses(t, full, creates("new"), api.ErrFull)
	refuses(t, full, creates("b3"), api.ErrTwice)
	refuses(t, full, creates("b*"), api.ErrArg)
	fullSpent := changed(func(s *api.Mail) { s.Boxes, s.NextValidity = boxes(8), maxUid+1 })
	refuses(t, fullSpent, creates("new"), api.ErrFull)
	spent := changed(func(s *api.Mail) { s.NextValidity = maxUid + 1 })
	refuses(t, spent, creates("new"), api.ErrSpent)
	refuses(t, spent, creates("a"), api.ErrTwice)
	refuses(t, spent, creates("inbox"), api.ErrArg)
	last := changed(func(s *api.Mail) { s.Boxes, s.NextValidity = boxes(7), maxUid })
	r := creates("new")
	s := does(t, last, r, api.Outcome{Validity: maxUid}, then(last, r, func(s *api.Mail) {
		s.Boxes, s.NextValidity = append(s.Boxes, api.Box{Name: "new", Validity: maxUid, Next: 1, High: 1}), maxUid+1
	}))
	r = deletes("new")
	r.Number++
	s, _ = mail.Apply(s, r)
	r = creates("new")
	r.Number += 2
	refuses(t, s, r, api.ErrSpent)
}

// TestDelete: P18.2, a mailbox is gone, its Validity comes never again; INBOX stays.
func TestDelete(t *testing.T) {
	refuses(t, given(), deletes("INBOX"), api.ErrArg)
	for _, name := range []string{"", "inbox", "A", "b", "c", "*", "b/c d "} {
		refuses(t, given(), deletes(name), api.ErrNone)
	}
	for i, b := range given().Boxes[1:] {
		r := deletes(b.Name)
		s := does(t, given(), r, api.Outcome{}, then(given(), r, func(s *api.Mail) { s.Boxes = slices.Delete(s.Boxes, i+1, i+2) }))
		r.Number++
		refuses(t, s, r, api.ErrNone)
		r.Op = api.OpCreate
		does(t, s, r, api.Outcome{Validity: 6}, then(s, r, func(s *api.Mail) {
			s.Boxes, s.NextValidity = slices.Insert(s.Boxes, i+1, api.Box{Name: b.Name, Validity: 6, Next: 1, High: 1}), 7
		}))
	}
}

// TestAppend: P18.2, a letter with the next Uid and the next change, whatever Validity is said.
func TestAppend(t *testing.T) {
	for i, b := range given().Boxes {
		for _, l := range [][]string{nil, {`\Seen`}, {`\Deleted`, `\Draft`, "a", "b"}, flags(16)} {
			for _, size := range []uint64{0, 1, 4096} {
				r := brings(b.Name, l...)
				r.Size, r.Validity = size, b.Validity+size
				s := does(t, given(), r, api.Outcome{Validity: b.Validity, Uids: []uint64{b.Next}}, then(given(), r, func(s *api.Mail) {
					s.Boxes[i].Letters = append(s.Boxes[i].Letters, api.Letter{Uid: b.Next, Flags: l, Mod: b.High + 1, Hash: hash(5), Size: size})
					s.Boxes[i].Next++
					s.Boxes[i].High++
				}))
				stays(t, s, r, api.ErrOld)
			}
		}
	}
}

// TestAppendFaults: P18.2, P18.5, the errors, each ahead of those behind it.
func TestAppendFaults(t *testing.T) {
	for _, name := range []string{"", "inbox", "A", "c", "*"} {
		refuses(t, given(), brings(name), api.ErrNone)
		refuses(t, given(), brings(name, "A B"), api.ErrNone)
	}
	for _, l := range [][]string{{""}, {"A"}, {"b", "a"}, {"a", "a"}, {"a", `\Seen`}, {`\seen`}, {`\Recent`}, {`\Seen`, `\Answered`}, {"a b"}, flags(17), {strings.Repeat("a", 33)}} {
		refuses(t, given(), brings("a", l...), api.ErrArg)
	}
	for _, h := range []string{"", "h", hash(1)[1:], hash(1) + "h", hash(1) + hash(1)} {
		r := brings("a")
		r.Hash = h
		refuses(t, given(), r, api.ErrArg)
		r.Sweeps = 9
		refuses(t, given(), r, api.ErrArg)
	}
	for _, n := range []uint64{4097, 1 << 32, maxNumber} {
		r := brings("a")
		r.Size = n
		refuses(t, given(), r, api.ErrArg)
	}
	full := changed(func(s *api.Mail) {
		s.Boxes[0].Letters, s.Boxes[0].Next, s.Boxes[0].High = letters(32), maxUid+1, maxMod
	})
	for _, n := range []uint64{0, 1, 3, maxMod, maxNumber} {
		r := brings("a")
		r.Sweeps = n
		refuses(t, given(), r, api.ErrAgain)
		r.Box = "INBOX"
		refuses(t, full, r, api.ErrAgain)
		r.Size = 4097
		refuses(t, full, r, api.ErrArg)
	}
	refuses(t, full, brings("INBOX"), api.ErrFull)
	one := changed(func(s *api.Mail) { s.Boxes[0].Letters, s.Boxes[0].Next = letters(31), 40 })
	r := brings("INBOX")
	s := does(t, one, r, api.Outcome{Validity: 1, Uids: []uint64{40}}, then(one, r, func(s *api.Mail) {
		s.Boxes[0].Letters = append(s.Boxes[0].Letters, api.Letter{Uid: 40, Mod: 13, Hash: hash(5), Size: 5})
		s.Boxes[0].Next, s.Boxes[0].High = 41, 13
	}))
	r.Number++
	refuses(t, s, r, api.ErrFull)
}

// TestAppendSpent: P18.2, P18.5, Uids and changes that are used up, of that mailbox alone.
func TestAppendSpent(t *testing.T) {
	refuses(t, changed(func(s *api.Mail) { s.Boxes[0].Next = maxUid + 1 }), brings("INBOX"), api.ErrSpent)
	refuses(t, changed(func(s *api.Mail) { s.Boxes[0].High = maxMod }), brings("INBOX"), api.ErrSpent)
	last := changed(func(s *api.Mail) {
		s.Boxes[0].Next, s.Boxes[0].High, s.Boxes[1].Next, s.Boxes[1].High = maxUid, maxMod-1, maxUid+1, maxMod
	})
	r := brings("INBOX")
	s := does(t, last, r, api.Outcome{Validity: 1, Uids: []uint64{maxUid}}, then(last, r, func(s *api.Mail) {
		s.Boxes[0].Letters = append(s.Boxes[0].Letters, api.Letter{Uid: maxUid, Mod: maxMod, Hash: hash(5), Size: 5})
		s.Boxes[0].Next, s.Boxes[0].High = maxUid+1, maxMod
	}))
	r.Number++
	refuses(t, s, r, api.ErrSpent)
}

// ranges are a set's: of pairs.
func ranges(l ...uint64) []api.Range {
	var of []api.Range
	for i := 0; i < len(l); i += 2 {
		of = append(of, api.Range{From: l[i], To: l[i+1]})
	}
	return of
}

// stores is a store of INBOX.
func stores(how int, flags []string, l ...uint64) api.Request {
	return of(api.Request{Op: api.OpStore, Box: "INBOX", Validity: 1, How: how, Flags: flags, Uids: ranges(l...)})
}

// since makes a store one that holds what was changed since a number.
func since(n uint64, r api.Request) api.Request {
	r.HasSince, r.Since = true, n
	return r
}

// TestStore: P18.2, what is done to whom, and what is held. INBOX has the Uids 2 (\Seen work, of 3), 3 (none, of 12), 7 (\Deleted \Seen, of 7); High is 12.
func TestStore(t *testing.T) {
	seen, all := []string{`\Seen`}, []string{`\Deleted`, `\Seen`}
	for _, c := range []struct {
		r              api.Request
		done, held     []uint64
		two, three, at []string // flags of 2, 3, 7 where they changed
	}{
		{stores(1, seen, 1, 0), []uint64{2, 3, 7}, nil, nil, seen, nil},
		{stores(1, seen, 2, 2), []uint64{2}, nil, nil, nil, nil},
		{stores(1, []string{"x"}, 0, 0), []uint64{7}, nil, nil, nil, []string{`\Deleted`, `\Seen`, "x"}},
		{stores(1, []string{"x"}, 9, 0), []uint64{7}, nil, nil, nil, []string{`\Deleted`, `\Seen`, "x"}}, // from 7 to 9
		{stores(1, []string{"x"}, 8, 9), nil, nil, nil, nil, nil},
		{stores(1, []string{"x"}), nil, nil, nil, nil, nil},
		{stores(1, []string{"x"}, 4, 6), nil, nil, nil, nil, nil},
		{stores(1, []string{"x"}, 3, 1, 2, 2), []uint64{2, 3}, nil, []string{`\Seen`, "work", "x"}, []string{"x"}, nil},
		{stores(1, nil, 1, 0), []uint64{2, 3, 7}, nil, nil, nil, nil},
		{stores(0, nil, 1, 0), []uint64{2, 3, 7}, nil, []string{}, nil, []string{}},
		{stores(0, all, 1, 0), []uint64{2, 3, 7}, nil, all, all, nil},
		{stores(0, all, 7, 7), []uint64{7}, nil, nil, nil, nil},
		{stores(2, seen, 1, 0), []uint64{2, 3, 7}, nil, []string{"work"}, nil, []string{`\Deleted`}},
		{stores(2, []string{"no"}, 1, 0), []uint64{2, 3, 7}, nil, nil, nil, nil},
		{stores(2, []string{`\Seen`, "work"}, 2, 2), []uint64{2}, nil, []string{}, nil, nil},
		{since(3, stores(1, []string{"x"}, 1, 0)), []uint64{2}, []uint64{3, 7}, []string{`\Seen`, "work", "x"}, nil, nil},
		{since(2, stores(1, []string{"x"}, 1, 0)), nil, []uint64{2, 3, 7}, nil, nil, nil},
		{since(0, stores(1, []string{"x"}, 3, 7)), nil, []uint64{3, 7}, nil, nil, nil},
		{since(7, stores(1, []string{"x"}, 1, 0)), []uint64{2, 7}, []uint64{3}, []string{`\Seen`, "work", "x"}, nil, []string{`\Deleted`, `\Seen`, "x"}},
		{since(6, stores(0, nil, 7, 3)), nil, []uint64{3, 7}, nil, nil, nil},
		{since(11, stores(2, seen, 1, 0)), []uint64{2, 7}, []uint64{3}, []string{"work"}, nil, []string{`\Deleted`}},
		{since(12, stores(1, seen, 1, 0)), []uint64{2, 3, 7}, nil, nil, seen, nil},
		{since(maxNumber, stores(1, seen, 1, 0)), []uint64{2, 3, 7}, nil, nil, seen, nil},
		{since(7, stores(1, seen, 1, 0)), []uint64{2, 7}, []uint64{3}, nil, nil, nil},
	} {
		want := then(given(), c.r, func(s *api.Mail) {
			b := &s.Boxes[0]
			for j, l := range [][]string{c.two, c.three, c.at} {
				if l != nil {
					b.Letters[j].Flags, b.Letters[j].Mod, b.High = l, 13, 13
				}
			}
		})
		s := does(t, given(), c.r, api.Outcome{Uids: c.done, Modified: c.held}, want)
		stays(t, s, c.r, api.ErrOld)
		if c.r.HasSince {
			continue
		}
		c.r.Since = 1
		does(t, given(), c.r, api.Outcome{Uids: c.done}, want) // Since alone counts for nothing
	}
}

// TestStoreOfNone: P18.2, ErrNone of another name and another Validity, ahead of ErrArg.
func TestStoreOfNone(t *testing.T) {
	for op := api.OpStore; op <= api.OpCopy; op++ {
		for name, v := range map[string]uint64{"INBOX": 2, "inbox": 1, "a": 1, "b/c d": 4, "c": 5, "": 0, "A": 4, "b/c d ": 3} {
			refuses(t, given(), of(api.Request{Op: op, Box: name, Validity: v, To: "a", Uids: ranges(1, 0), Flags: []string{"a b"}, How: 9}), api.ErrNone)
			refuses(t, given(), of(api.Request{Op: op, Box: name, Validity: v, To: "no"}), api.ErrNone)
		}
		for _, v := range []uint64{0, 3, 4, 1 << 32, 1<<32 + 1, maxNumber} {
			refuses(t, given(), of(api.Request{Op: op, Box: "INBOX", Validity: v, To: "a"}), api.ErrNone)
		}
	}
}

// TestStoreFaults: P18.2, the errors in their order.
func TestStoreFaults(t *testing.T) {
	for _, l := range [][]string{{""}, {"A"}, {"b", "a"}, {"a", "a"}, {`\seen`}, {`\Recent`}, flags(17)} {
		for how := -1; how <= 3; how++ {
			refuses(t, given(), stores(how, l, 1, 0), api.ErrArg)
			refuses(t, given(), stores(how, l), api.ErrArg)
			refuses(t, given(), since(0, stores(how, l, 1, 0)), api.ErrArg)
		}
	}
	for _, how := range []int{-1, 3, 4, 1 << 32, 1<<32 + 1, -1 << 63, 1<<63 - 1} {
		refuses(t, given(), stores(how, nil, 1, 0), api.ErrArg)
		refuses(t, given(), stores(how, nil), api.ErrArg)
	}
	full := changed(func(s *api.Mail) { s.Boxes[0].Letters[1].Flags, s.Boxes[0].High = flags(16), maxMod })
	refuses(t, full, stores(1, []string{"x"}, 1, 0), api.ErrFull)
	refuses(t, full, since(12, stores(1, []string{"x"}, 1, 0)), api.ErrFull)
	refuses(t, full, since(11, stores(1, []string{"x"}, 1, 0)), api.ErrSpent) // what is held is not asked
	refuses(t, full, stores(1, []string{"x"}, 1, 2), api.ErrSpent)
	r := stores(1, []string{"ka", "kb"}, 3, 3)
	does(t, full, r, api.Outcome{Uids: []uint64{3}}, counted(full, r))
	refuses(t, full, stores(2, []string{"ka"}, 3, 3), api.ErrSpent)
	room := changed(func(s *api.Mail) { s.Boxes[0].Letters[1].Flags = flags(15) })
	refuses(t, room, stores(1, []string{"x", "y"}, 1, 0), api.ErrFull)
	r = stores(1, []string{"x"}, 3, 3)
	does(t, room, r, api.Outcome{Uids: []uint64{3}}, then(room, r, func(s *api.Mail) {
		s.Boxes[0].Letters[1].Flags, s.Boxes[0].Letters[1].Mod, s.Boxes[0].High = append(flags(15), "x"), 13, 13
	}))
}

// TestStoreSpent: P18.2, P18.5, at the last change what changes nothing is done.
func TestStoreSpent(t *testing.T) {
	last := changed(func(s *api.Mail) { s.Boxes[0].High = maxMod - 1 })
	r := stores(1, []string{`\Seen`}, 1, 0)
	s := does(t, last, r, api.Outcome{Uids: []uint64{2, 3, 7}}, then(last, r, func(s *api.Mail) {
		s.Boxes[0].Letters[1].Flags, s.Boxes[0].Letters[1].Mod, s.Boxes[0].High = []string{`\Seen`}, maxMod, maxMod
	}))
	r.Number++
	s = does(t, s, r, api.Outcome{Uids: []uint64{2, 3, 7}}, counted(s, r))
	r.How, r.Number = 2, 10
	refuses(t, s, r, api.ErrSpent)
	r.Uids = ranges(4, 5)
	does(t, s, r, api.Outcome{}, counted(s, r))
	r.Uids = ranges(1, 0)
	does(t, s, since(2, r), api.Outcome{Modified: []uint64{2, 3, 7}}, counted(s, r))
}

func expunges(l ...uint64) api.Request {
	return of(api.Request{Op: api.OpExpunge, Box: "INBOX", Validity: 1, Uids: ranges(l...)})
}

// TestExpunge: P18.2, those that are meant and marked go.
func TestExpunge(t *testing.T) {
	marked := changed(func(s *api.Mail) { s.Boxes[0].Letters[0].Flags = []string{`\Deleted`} })
	for _, c := range []struct {
		r    api.Request
		gone []uint64
	}{
		{expunges(), []uint64{2, 7}},
		{expunges(1, 0), []uint64{2, 7}},
		{expunges(2, 2), []uint64{2}},
		{expunges(0, 0), []uint64{7}},
		{expunges(3, 0), []uint64{7}},
		{expunges(8, 0), []uint64{7}},
		{expunges(3, 3), nil},
		{expunges(8, 9), nil},
		{expunges(3, 6), nil},
		{expunges(7, 7, 2, 2, 7, 7), []uint64{2, 7}},
	} {
		s := does(t, marked, c.r, api.Outcome{Uids: c.gone}, then(marked, c.r, func(s *api.Mail) {
			b := &s.Boxes[0]
			b.Letters = slices.DeleteFunc(b.Letters, func(x api.Letter) bool { return slices.Contains(c.gone, x.Uid) })
			if len(c.gone) > 0 {
				b.High++
			}
		}))
		stays(t, s, c.r, api.ErrOld)
		spent := deep(marked)
		spent.Boxes[0].High = maxMod
		if len(c.gone) > 0 {
			refuses(t, spent, c.r, api.ErrSpent)
		} else {
			does(t, spent, c.r, api.Outcome{}, counted(spent, c.r))
		}
	}
	last := changed(func(s *api.Mail) { s.Boxes[0].High = maxMod - 1 })
	r := expunges()
	r.Flags, r.How = []string{"a b"}, 9 // they count for nothing
	does(t, last, r, api.Outcome{Uids: []uint64{7}}, then(last, r, func(s *api.Mail) {
		s.Boxes[0].Letters, s.Boxes[0].High = s.Boxes[0].Letters[:2], maxMod
	}))
	none := of(api.Request{Op: api.OpExpunge, Box: "a", Validity: 4})
	does(t, given(), none, api.Outcome{}, counted(given(), none))
	keyword := changed(func(s *api.Mail) { s.Boxes[0].Letters[2].Flags = []string{"deleted"} })
	does(t, keyword, expunges(), api.Outcome{}, counted(keyword, expunges()))
}

func copies(from string, validity uint64, to string, l ...uint64) api.Request {
	return of(api.Request{Op: api.OpCopy, Box: from, Validity: validity, To: to, Uids: ranges(l...)})
}

// TestCopy: P18.2, letters anew, in their order, as one change.
func TestCopy(t *testing.T) {
	for _, c := range []struct {
		r    api.Request
		to   int
		from []int // places of INBOX's letters
	}{
		{copies("INBOX", 1, "a", 1, 0), 1, []int{0, 1, 2}},
		{copies("INBOX", 1, "b/c d", 1, 0), 2, []int{0, 1, 2}},
		{copies("INBOX", 1, "b/c d", 7, 7, 2, 2, 7, 7), 2, []int{0, 2}},
		{copies("INBOX", 1, "b/c d", 0, 0), 2, []int{2}},
		{copies("INBOX", 1, "a", 99, 0), 1, []int{2}},
		{copies("INBOX", 1, "INBOX", 1, 0), 0, []int{0, 1, 2}},
		{copies("INBOX", 1, "INBOX", 3, 3), 0, []int{1}},
	} {
		was := given().Boxes[c.to]
		var new []uint64
		s := does(t, given(), c.r, func() api.Outcome {
			for i := range c.from {
				new = append(new, was.Next+uint64(i))
			}
			return api.Outcome{Validity: was.Validity, Uids: new}
		}(), then(given(), c.r, func(s *api.Mail) {
			b := &s.Boxes[c.to]
			for i, at := range c.from {
				x := s.Boxes[0].Letters[at]
				x.Uid, x.Mod = new[i], was.High+1
				b.Letters = append(b.Letters, x)
			}
			b.Next, b.High = was.Next+uint64(len(new)), was.High+1
		}))
		stays(t, s, c.r, api.ErrOld)
	}
	for _, r := range []api.Request{copies("INBOX", 1, "b/c d"), copies("INBOX", 1, "b/c d", 1, 1), copies("INBOX", 1, "b/c d", 8, 9, 4, 6), copies("a", 4, "b/c d", 1, 0), copies("a", 4, "b/c d", 0, 0)} {
		full := changed(func(s *api.Mail) {
			s.Boxes[2].Letters, s.Boxes[2].Next, s.Boxes[2].High = letters(32), maxUid+1, maxMod
		})
		for _, s := range []api.Mail{given(), full} {
			does(t, s, r, api.Outcome{Validity: 3}, counted(s, r))
		}
	}
}

// TestCopyFaults: P18.2, P18.5, the errors in their order.
func TestCopyFaults(t *testing.T) {
	for _, to := range []string{"", "inbox", "A", "c", "*"} {
		refuses(t, given(), copies("INBOX", 1, to, 1, 0), api.ErrTry)
		refuses(t, given(), copies("INBOX", 1, to), api.ErrTry)
		refuses(t, given(), copies("INBOX", 2, to, 1, 0), api.ErrNone)
	}
	for n := 28; n <= 32; n++ {
		s := changed(func(s *api.Mail) { s.Boxes[2].Letters, s.Boxes[2].Next = letters(n), 40 })
		_, o := mail.Apply(s, copies("INBOX", 1, "b/c d", 1, 0))
		if want := n <= 29; (o.Code == api.OK) != want || !want && o.Code != api.ErrFull {
			t.Errorf("to %d letters: %d", n, o.Code)
		}
		s.Boxes[2].Next, s.Boxes[2].High = maxUid+1, maxMod
		want := api.ErrSpent
		if n > 29 {
			want = api.ErrFull
		}
		refuses(t, s, copies("INBOX", 1, "b/c d", 1, 0), want)
	}
	self := changed(func(s *api.Mail) { s.Boxes[0].Letters, s.Boxes[0].Next = letters(17), 40 })
	refuses(t, self, copies("INBOX", 1, "INBOX", 1, 0), api.ErrFull)
	r := copies("INBOX", 1, "INBOX", 1, 15)
	s, o := mail.Apply(self, r)
	if o.Code != api.OK || len(s.Boxes[0].Letters) != 32 || !mail.Right(s) {
		t.Errorf("15 of 17 copied to themselves: %d", o.Code)
	}
	for next, e := range map[uint64]api.Errno{maxUid - 3: api.OK, maxUid - 2: api.OK, maxUid - 1: api.ErrSpent, maxUid: api.ErrSpent, maxUid + 1: api.ErrSpent} {
		s := changed(func(s *api.Mail) { s.Boxes[1].Next, s.Boxes[0].Next, s.Boxes[0].High = next, maxUid+1, maxMod })
		if _, o := mail.Apply(s, copies("INBOX", 1, "a", 1, 0)); o.Code != e {
			t.Errorf("to Next %d: %d", next, o.Code)
		}
	}
	last := changed(func(s *api.Mail) { s.Boxes[1].High, s.Boxes[1].Next = maxMod-1, maxUid-2 })
	r = copies("INBOX", 1, "a", 1, 0)
	does(t, last, r, api.Outcome{Validity: 4, Uids: []uint64{maxUid - 2, maxUid - 1, maxUid}}, then(last, r, func(s *api.Mail) {
		for i, x := range s.Boxes[0].Letters {
			x.Uid, x.Mod = maxUid-2+uint64(i), maxMod
			s.Boxes[1].Letters = append(s.Boxes[1].Letters, x)
		}
		s.Boxes[1].High, s.Boxes[1].Next = maxMod, maxUid+1
	}))
	refuses(t, changed(func(s *api.Mail) { s.Boxes[1].High = maxMod }), r, api.ErrSpent)
}

// TestExamples: the chapter's.
func TestExamples(t *testing.T) {
	s, o := mail.Apply(mail.New(), opens(1, 1, 1))
	if o.Session != 1 {
		t.Error(o)
	}
	one := func(n uint64, r api.Request) api.Request {
		r.Session, r.Number = 1, n
		return r
	}
	s, o = mail.Apply(s, one(1, api.Request{Op: api.OpCreate, Box: "a"}))
	if o.Code != api.OK || o.Validity != 2 {
		t.Error(o)
	}
	add := one(2, api.Request{Op: api.OpAppend, Box: "a", Hash: hash(1)})
	s, o = mail.Apply(s, add)
	if o.Code != api.OK || !slices.Equal(o.Uids, []uint64{1}) {
		t.Error(o)
	}
	s, o = mail.Apply(s, add)
	if o.Code != api.ErrOld {
		t.Error(o)
	}
	store := api.Request{Op: api.OpStore, Box: "a", Validity: 2, Uids: ranges(1, 0), How: api.FlagsAdd, Flags: []string{`\Seen`}}
	s, o = mail.Apply(s, one(3, store))
	if b, _ := mail.Find(s, "a"); o.Code != api.OK || !slices.Equal(o.Uids, []uint64{1}) || b.High != 3 {
		t.Error(o, b)
	}
	s, o = mail.Apply(s, one(4, since(2, store)))
	if b, _ := mail.Find(s, "a"); o.Code != api.OK || len(o.Uids) != 0 || !slices.Equal(o.Modified, []uint64{1}) || b.High != 3 {
		t.Error(o, b)
	}
}
