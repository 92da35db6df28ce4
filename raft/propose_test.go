package raft_test

import (
	"slices"
	"testing"

	"posthorn/api"
	"posthorn/raft"
)

// ack is a MsgAck of a node to node 1 that all is well up to an index.
func ack(from int, term, i uint64) api.Event {
	return hear(api.Message{Kind: api.MsgAck, From: from, To: 1, Term: term, Ok: true, Index: i})
}

// TestProposeKinds: P17.2, EvPropose, kinds that may be, and others.
func TestProposeKinds(t *testing.T) {
	s := leads(t, []int{1})
	for _, kind := range []int{0, 1, -1, -2, 4, 5, 256 + 3, 1<<32 + 2, 1<<32 + 3, minInt, minInt + 3, maxInt} {
		e := propose(text(1, 2))
		e.Entry.Kind = kind
		refuses(t, s, e, api.ErrArg)
	}
	for _, term := range append([]uint64{0, 1, 2}, great...) { // its term doesn't count
		e := propose("x")
		e.Entry.Term = term
		next, out := ok(t, s, e)
		says(t, out)
		want := deep(s)
		want.Log.L = append(want.Log.L, mail(1, "x"))
		want.Commit = 2
		is(t, next, want)
	}
}

// TestProposeFirst: P17.2, EvPropose, of several errors the first.
func TestProposeFirst(t *testing.T) {
	long := noise(2049)
	follower, _ := ok(t, begun(t, []int{1, 2}), tick) // a candidate
	full := func(s api.Raft) api.Raft {
		s = deep(s)
		for len(s.Log.L) < api.MaxLog {
			s.Log.L = append(s.Log.L, mail(s.Term, "x"))
		}
		return s
	}
	lead := leads(t, []int{1, 2}) // nothing of its term is committed
	entry := func(kind int, data string) api.Event {
		return api.Event{Kind: api.EvPropose, Entry: api.Entry{Kind: kind, Data: data}}
	}
	for _, x := range []struct {
		s    api.Raft
		e    api.Event
		want api.Errno
	}{
		{begun(t, []int{1}), entry(3, "x"), api.ErrLead},
		{follower, entry(3, "x"), api.ErrLead},
		{full(follower), entry(9, long), api.ErrLead},
		{full(lead), entry(9, long), api.ErrArg},
		{full(lead), entry(1, long), api.ErrArg},
		{full(lead), entry(3, long), api.ErrLong},
		{full(lead), entry(2, long), api.ErrLong},
		{full(lead), entry(2, "?"), api.ErrFull},
		{full(lead), entry(2, text(1, 2, 3)), api.ErrFull},
		{full(lead), entry(3, "x"), api.ErrFull},
		{lead, entry(2, "?"), api.ErrArg},
		{lead, entry(2, text(1, 2)), api.ErrArg},
		{lead, entry(2, text(1, 2, 3)), api.ErrBusy},
		{lead, entry(3, text(1, 2, 3)), api.OK},
		{lead, entry(3, ""), api.OK},
	} {
		if x.want == api.OK {
			ok(t, x.s, x.e)
		} else {
			refuses(t, x.s, x.e, x.want)
		}
	}
}

// TestProposeLong: P17.2, EvPropose, Data of each length at the edge.
func TestProposeLong(t *testing.T) {
	s := leads(t, []int{1})
	for _, n := range []int{0, 1, 2047, 2048} {
		next, _ := ok(t, s, propose(noise(n)))
		if next.Log.L[1].Data != noise(n) {
			t.Errorf("%d bytes", n)
		}
	}
	for _, n := range []int{2049, 4096, 1 << 16} {
		refuses(t, s, propose(noise(n)), api.ErrLong)
	}
}

// TestProposeFull: P17.2, EvPropose, logs that have nearly as many entries as there may be, and more: whatever the base is.
func TestProposeFull(t *testing.T) {
	for _, base := range []uint64{0, 7, maxBase} {
		for n := 1021; n < 1027; n++ {
			g := api.Log{Base: base, BaseConf: []int{1}, L: slices.Repeat([]api.Entry{mail(0, "x")}, n-1)}
			s, _ := ok(t, made(t, 1, api.Hard{}, g, "", 1), tick)
			if len(s.Log.L) != n || s.Commit != base+uint64(n) { // an entry of a new leader has no limit
				t.Fatalf("%d entries, Commit %d", len(s.Log.L), s.Commit)
			}
			if n < 1024 {
				s, _ = ok(t, s, propose("y"))
				if len(s.Log.L) != n+1 {
					t.Errorf("%d entries", len(s.Log.L))
				}
			} else {
				refuses(t, s, propose("y"), api.ErrFull)
				refuses(t, s, change(1, 2), api.ErrFull)
				s, _ = ok(t, s, compact(base+uint64(n-1), ""))
				ok(t, s, propose("y"))
			}
		}
	}
}

// TestPropose: P17.2, EvPropose, the entry goes to all peers, and is committed when a majority has it.
func TestPropose(t *testing.T) {
	s := leads(t, []int{1, 2, 3})
	s, out := ok(t, s, propose("a"))
	for i, node := range []int{2, 3} { // they have acked nothing; Next is still the first
		says(t, out[i:i+1], api.Message{Kind: api.MsgAppend, From: 1, To: node, Term: 1, Entries: []api.Entry{none(1), mail(1, "a")}})
	}
	s, out = ok(t, s, ack(3, 1, 1))
	if s.Commit != 1 {
		t.Errorf("%s", brief(s))
	}
	says(t, out, api.Message{Kind: api.MsgAppend, From: 1, To: 3, Term: 1, Index: 1, LogTerm: 1, Entries: []api.Entry{mail(1, "a")}, Commit: 1})
	s, out = ok(t, s, propose("b"))
	says(t, out,
		api.Message{Kind: api.MsgAppend, From: 1, To: 2, Term: 1, Entries: []api.Entry{none(1), mail(1, "a"), mail(1, "b")}, Commit: 1},
		api.Message{Kind: api.MsgAppend, From: 1, To: 3, Term: 1, Index: 1, LogTerm: 1, Entries: []api.Entry{mail(1, "a"), mail(1, "b")}, Commit: 1})
	s, out = ok(t, s, ack(2, 1, 3))
	says(t, out)
	is(t, s, api.Raft{Id: 1, Term: 1, Vote: 1, Role: api.Leader, Leader: 1, Log: api.Log{BaseConf: []int{1, 2, 3}, L: []api.Entry{none(1), mail(1, "a"), mail(1, "b")}}, Commit: 3, Timeout: 1, Peers: []api.Peer{{Node: 2, Next: 4, Match: 3}, {Node: 3, Next: 2, Match: 1}}})
}

// TestChange: P17.2, EvPropose of an EntConf: from and to all members.
func TestChange(t *testing.T) {
	for _, from := range allMembers() {
		if from[0] != 1 {
			continue
		}
		s := leads(t, from)
		for _, node := range from[1:] {
			s, _ = ok(t, s, ack(node, 1, 1))
		}
		for _, to := range allMembers() {
			if !oneStep(from, to) {
				refuses(t, s, change(to...), api.ErrArg)
				continue
			}
			next, out := ok(t, s, change(to...))
			want := deep(s)
			want.Log.L = append(want.Log.L, conf(1, to...))
			want.Peers = nil
			var told []api.Message
			for _, node := range to {
				if node == 1 {
					continue
				}
				m := api.Message{Kind: api.MsgAppend, From: 1, To: node, Term: 1, Index: 1, LogTerm: 1, Entries: []api.Entry{conf(1, to...)}, Commit: want.Commit}
				p := api.Peer{Node: node, Next: 2, Match: 1}
				if !slices.Contains(from, node) {
					m.Index, m.Entries, p = 2, nil, api.Peer{Node: node, Next: 3}
				}
				want.Peers = append(want.Peers, p)
				told = append(told, m)
			}
			if slices.Equal(to, []int{1}) {
				want.Commit = 2
			}
			is(t, next, want)
			says(t, out, told...)
			members(t, next, to)
		}
	}
}

// TestChangeTexts: P17.2, EvPropose of an EntConf whose Data aren't members.
func TestChangeTexts(t *testing.T) {
	s := leads(t, []int{1})
	for _, data := range []string{"", "\x00", "\x01", "\x02\x01", "\x02\x02\x01", "\x02\x01\x01", "\x02\x01\x06", "\x02\x01\x00", "\x02\x00\x01", "\x02\x01\x02\x00", "\x02\x01\x82\x00", "\x82\x00\x01\x02", "1 2", noise(2048), text(1), text(2), text(1, 2, 3)} {
		e := propose(data)
		e.Entry.Kind = api.EntConf
		refuses(t, s, e, api.ErrArg)
	}
	ok(t, s, change(1, 2))
}

// TestChangeBusy: P17.2, ErrBusy until the entry that says who the members are, and one of the term, are committed.
func TestChangeBusy(t *testing.T) {
	s := leads(t, []int{1, 2})
	refuses(t, s, change(1), api.ErrBusy)
	refuses(t, s, change(1, 2, 3), api.ErrBusy)
	ok(t, s, propose("x"))
	s, _ = ok(t, s, ack(2, 1, 1))
	s, _ = ok(t, s, change(1, 2, 3))
	refuses(t, s, change(1, 2), api.ErrBusy)
	refuses(t, s, change(1, 2, 3, 4), api.ErrBusy)
	refuses(t, s, change(1, 2, 3), api.ErrArg)
	s, _ = ok(t, s, propose("x"))
	refuses(t, s, change(1, 2), api.ErrBusy)
	s, _ = ok(t, s, ack(2, 1, 1))
	s, _ = ok(t, s, ack(3, 1, 1))
	refuses(t, s, change(1, 2), api.ErrBusy)
	s, _ = ok(t, s, ack(2, 1, 2))
	if s.Commit != 2 {
		t.Errorf("%s", brief(s))
	}
	s, _ = ok(t, s, change(1, 2)) // though what stands behind isn't committed
	members(t, s, []int{1, 2})
}

// TestChangeBusyOfOldTerms: P17.2, ErrBusy while all that is committed is of terms below, though the members are committed.
func TestChangeBusyOfOldTerms(t *testing.T) {
	s := leads(t, []int{1, 2}, none(1), conf(1, 1, 2, 3), none(2))
	if s.Term != 3 || s.Commit != 0 {
		t.Fatalf("%s", brief(s))
	}
	s.Commit = 3
	refuses(t, s, change(1, 2), api.ErrBusy)
	s, _ = ok(t, s, ack(3, 3, 3)) // of a term below: it isn't committed by that
	refuses(t, s, change(1, 2), api.ErrBusy)
	s, _ = ok(t, s, ack(3, 3, 4))
	if s.Commit != 4 {
		t.Errorf("%s", brief(s))
	}
	ok(t, s, change(1, 2))
	s, _ = ok(t, s, compact(4, "")) // the term at Commit is the base's then
	ok(t, s, change(1, 2))
	s.Log.BaseTerm = 2
	refuses(t, s, change(1, 2), api.ErrBusy)
}

// TestCommitOfOldTerms: P17.2, to commit: entries of terms below are committed by one of the term alone.
func TestCommitOfOldTerms(t *testing.T) {
	s := leads(t, []int{1, 2, 3}, mail(1, "a"), mail(2, "b"), mail(2, "c"))
	for i := uint64(1); i <= 3; i++ {
		s, _ = ok(t, s, ack(2, 3, i))
		if s.Commit != 0 || s.Peers[0].Match != i {
			t.Errorf("%s", brief(s))
		}
	}
	s, _ = ok(t, s, ack(2, 3, 4))
	if s.Commit != 4 {
		t.Errorf("%s", brief(s))
	}
}

// TestCommit: P17.2, to commit: what each majority has.
func TestCommit(t *testing.T) {
	for _, l := range [][]int{{1}, {1, 2}, {1, 2, 3}, {1, 2, 3, 4}, {1, 2, 3, 4, 5}} {
		for order := range 24 {
			s := leads(t, l)
			for range 6 {
				s, _ = ok(t, s, propose("x"))
			}
			has := map[int]uint64{1: 7}
			for _, node := range permuted(l[1:], order) {
				i := uint64(node*order)%7 + 1
				s, _ = ok(t, s, ack(node, 1, i))
				has[node] = i
				want := uint64(0)
				for c := uint64(1); c <= 7; c++ {
					in := 0
					for _, x := range has {
						if x >= c {
							in++
						}
					}
					if 2*in > len(l) {
						want = c
					}
				}
				if s.Commit != want {
					t.Errorf("%v of %v: Commit %d, must be %d", has, l, s.Commit, want)
				}
			}
		}
	}
}

// permuted is a list in another order.
func permuted(l []int, order int) []int {
	l = slices.Clone(l)
	for i := len(l) - 1; i > 0; i-- {
		j := order % (i + 1)
		order /= i + 1
		l[i], l[j] = l[j], l[i]
	}
	return l
}

// TestTakenAway: P17.2, a leader that is taken away leads until that is committed, and its own log doesn't count.
func TestTakenAway(t *testing.T) {
	s := leads(t, []int{1, 2, 3})
	s, _ = ok(t, s, ack(2, 1, 1))
	s, _ = ok(t, s, ack(3, 1, 1))
	s, out := ok(t, s, change(2, 3))
	if s.Role != api.Leader || len(out) != 2 || len(s.Peers) != 2 {
		t.Errorf("%s", brief(s))
	}
	s, out = ok(t, s, ack(2, 1, 2))
	if s.Role != api.Leader || s.Commit != 1 { // one of two isn't a majority
		t.Errorf("%s", brief(s))
	}
	says(t, out)
	s, _ = ok(t, s, propose("x"))
	s, out = ok(t, s, ack(3, 1, 2))
	says(t, out) // it leads no more, so that 3 isn't updated
	is(t, s, api.Raft{Id: 1, Term: 1, Vote: 1, Log: api.Log{BaseConf: []int{1, 2, 3}, L: []api.Entry{none(1), conf(1, 2, 3), mail(1, "x")}}, Commit: 2, Timeout: 1})
	next, out := ok(t, s, tick) // and it does not stand
	says(t, out)
	s.Ticks = 1
	is(t, next, s)
	refuses(t, s, propose("y"), api.ErrLead)
}

// TestTakenAwayOfTwo: P17.2, one of two that takes itself away: the other one alone is the majority.
func TestTakenAwayOfTwo(t *testing.T) {
	s := leads(t, []int{1, 2})
	s, _ = ok(t, s, ack(2, 1, 1))
	s, _ = ok(t, s, change(2))
	if s.Role != api.Leader || s.Commit != 1 {
		t.Errorf("%s", brief(s))
	}
	s, _ = ok(t, s, ack(2, 1, 2))
	if s.Role != api.Follower || s.Leader != 0 || s.Commit != 2 || s.Term != 1 || s.Vote != 1 {
		t.Errorf("%s", brief(s))
	}
}

// TestGrows: P17.2, a node alone takes others in: each must have what is committed then.
func TestGrows(t *testing.T) {
	s := leads(t, []int{1})
	for node := 2; node <= 5; node++ {
		l := []int{1, 2, 3, 4, 5}[:node]
		last := uint64(node)
		var out []api.Message
		s, out = ok(t, s, change(l...))
		if s.Commit != last-1 || len(out) != node-1 {
			t.Errorf("%s, %s", brief(s), brief(out))
		}
		if p := s.Peers[node-2]; p != (api.Peer{Node: node, Next: last + 1}) {
			t.Errorf("%v", p)
		}
		s, out = ok(t, s, hear(api.Message{Kind: api.MsgAck, From: node, To: 1, Term: 1}))
		says(t, out, api.Message{Kind: api.MsgAppend, From: 1, To: node, Term: 1, Entries: s.Log.L, Commit: last - 1})
		for other := 2; other <= node; other++ {
			s, _ = ok(t, s, ack(other, 1, last))
		}
		if s.Commit != last {
			t.Errorf("%s", brief(s))
		}
	}
}

// TestCompact: P17.2, EvCompact, at each index.
func TestCompact(t *testing.T) {
	g := api.Log{Base: 5, BaseTerm: 2, BaseConf: []int{1, 2}, L: []api.Entry{mail(2, "a"), conf(3, 1, 2, 3), mail(3, "b"), mail(4, "c")}}
	s := made(t, 1, api.Hard{Term: 4}, g, "old", 9)
	s.Role, s.Leader, s.Commit = api.Leader, 1, 8
	s.Peers = []api.Peer{{Node: 2, Next: 3, Match: 1, Offset: 2}, {Node: 3, Next: 9, Match: 8, Offset: 3}}
	s.Piece, s.PieceIndex, s.PieceTerm = "piece", 30, 4
	for i := range uint64(12) {
		if i < 6 || i > 8 {
			refuses(t, s, compact(i, "new"), api.ErrArg)
			continue
		}
		next, out := ok(t, s, compact(i, "new"))
		says(t, out)
		want := deep(s)
		want.Log = api.Log{Base: i, BaseTerm: 3, BaseConf: []int{1, 2, 3}, L: g.L[i-5:]}
		if i == 6 {
			want.Log.BaseTerm, want.Log.BaseConf = 2, []int{1, 2}
		}
		want.Image = "new"
		want.Peers = []api.Peer{{Node: 2, Next: 3, Match: 1}, {Node: 3, Next: 9, Match: 8}}
		is(t, next, want)
		refuses(t, next, compact(i, "new"), api.ErrArg)
	}
	for _, i := range great {
		refuses(t, s, compact(i, "new"), api.ErrArg)
	}
}

// TestCompactImages: P17.2, EvCompact, images of each length at the edge.
func TestCompactImages(t *testing.T) {
	s := leads(t, []int{1})
	for _, n := range []int{0, 1, 4096, 1<<18 - 1, 1 << 18} {
		next, _ := ok(t, s, compact(1, noise(n)))
		if next.Image != noise(n) || next.Log.Base != 1 {
			t.Errorf("%d bytes", n)
		}
	}
	for _, n := range []int{1<<18 + 1, 1 << 19, 1 << 20} {
		refuses(t, s, compact(1, noise(n)), api.ErrArg)
	}
}

// TestCompactOfAny: P17.2, EvCompact, whoever leads or stands.
func TestCompactOfAny(t *testing.T) {
	for role := range 3 {
		s := made(t, 1, api.Hard{Term: 1}, api.Log{BaseConf: []int{1, 2, 3}, L: []api.Entry{none(1), none(1)}}, "", 9)
		s.Role, s.Commit = role, 1
		next, out := ok(t, s, compact(1, "image"))
		says(t, out)
		s.Log, s.Image = api.Log{Base: 1, BaseTerm: 1, BaseConf: []int{1, 2, 3}, L: []api.Entry{none(1)}}, "image"
		is(t, next, s)
		refuses(t, s, compact(2, "image"), api.ErrArg)
	}
	if l := raft.Members(leads(t, []int{1})); !slices.Equal(l, []int{1}) {
		t.Error(l)
	}
}
