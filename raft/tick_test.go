package raft_test

import (
	"slices"
	"testing"

	"posthorn/api"
	"posthorn/raft"
)

// TestTimeout: P17.2, EvTick, a node stands at its timeout, not ahead of it, and then each time anew.
func TestTimeout(t *testing.T) {
	for _, timeout := range []int{1, 2, 3, 9, 1000} {
		s := made(t, 2, api.Hard{Term: 7, Vote: 3}, api.Log{Base: 4, BaseTerm: 6, BaseConf: []int{1, 2, 4}}, "", timeout)
		for round := range 3 {
			for i := 1; i < timeout; i++ {
				next, out := ok(t, s, tick)
				says(t, out)
				if next.Ticks != i || next.Term != s.Term || next.Vote != s.Vote || next.Role != s.Role {
					t.Fatalf("behind %d ticks of %d: %s", i, timeout, brief(next))
				}
				s = next
			}
			next, out := ok(t, s, tick)
			term := uint64(8 + round)
			is(t, next, api.Raft{Id: 2, Term: term, Vote: 2, Role: api.Candidate, Log: s.Log, Commit: 4, Timeout: timeout, Votes: []int{2}})
			says(t, out,
				api.Message{Kind: api.MsgVote, From: 2, To: 1, Term: term, Index: 4, LogTerm: 6},
				api.Message{Kind: api.MsgVote, From: 2, To: 4, Term: term, Index: 4, LogTerm: 6})
			s = next
		}
	}
}

// TestStandsLate: P17.2, EvTick, ticks beyond the timeout count, too: who may not stand goes on ticking.
func TestStandsLate(t *testing.T) {
	s := made(t, 1, api.Hard{Term: 3}, api.Log{BaseConf: []int{2, 3}}, "", 2)
	for i := range 7 {
		next, out := ok(t, s, tick)
		says(t, out)
		s.Ticks = i + 1
		is(t, next, s)
		s = next
	}
	s.Log.BaseConf = []int{1, 2, 3}
	s, out := ok(t, s, tick)
	if s.Role != api.Candidate || s.Term != 4 || s.Ticks != 0 || len(out) != 2 {
		t.Errorf("%s, %s", brief(s), brief(out))
	}
}

// TestMayStand: P17.2, a node may stand as a member, and as long as the entry that takes it away isn't committed.
func TestMayStand(t *testing.T) {
	for _, x := range []struct {
		base   []int
		l      []api.Entry
		commit uint64
		want   bool
	}{
		{nil, nil, 4, false},
		{[]int{1}, nil, 4, true},
		{[]int{2}, nil, 4, false},
		{[]int{1, 2}, []api.Entry{none(1)}, 4, true},
		{[]int{2}, []api.Entry{conf(1, 1, 2)}, 4, true}, // a member as soon as the entry is there
		{[]int{2}, []api.Entry{conf(1, 1, 2)}, 5, true},
		{[]int{1, 2}, []api.Entry{conf(1, 2)}, 4, true},
		{[]int{1, 2}, []api.Entry{conf(1, 2)}, 5, false},
		{[]int{1, 2}, []api.Entry{conf(1, 2), mail(1, "x")}, 4, true},
		{[]int{1, 2}, []api.Entry{conf(1, 2), mail(1, "x")}, 5, false},
		{[]int{1, 2}, []api.Entry{conf(1, 2), mail(1, "x")}, 6, false},
		{[]int{1, 2}, []api.Entry{mail(1, "x"), conf(1, 2), mail(1, "x")}, 5, true},
		{[]int{1, 2}, []api.Entry{mail(1, "x"), conf(1, 2), mail(1, "x")}, 6, false},
		{[]int{1, 2, 3}, []api.Entry{conf(1, 2, 3), conf(1, 2)}, 4, false}, // the one ahead of it took it away already
		{[]int{1, 2, 3}, []api.Entry{conf(1, 2, 3), conf(1, 2)}, 5, false},
		{[]int{2}, []api.Entry{conf(1, 1, 2), conf(1, 2)}, 4, true},
		{[]int{2}, []api.Entry{conf(1, 1, 2), conf(1, 2)}, 5, true},
		{[]int{2}, []api.Entry{conf(1, 1, 2), conf(1, 2)}, 6, false},
		{[]int{2}, []api.Entry{conf(1, 2, 3)}, 4, false},
		{[]int{1, 2}, []api.Entry{{Term: 1, Kind: api.EntMail, Data: text(2)}}, 5, true}, // that says nothing
		{[]int{1, 2}, []api.Entry{{Term: 1, Kind: api.EntConf, Data: "\x01\x06"}}, 5, true},
		{[]int{1, 2}, []api.Entry{conf(1, 2), {Term: 1, Kind: api.EntConf, Data: ""}}, 5, false},
		{[]int{1, 2}, []api.Entry{conf(1, 2), {Term: 1, Kind: api.EntConf, Data: ""}}, 4, true},
	} {
		g := api.Log{Base: 4, BaseTerm: 1, BaseConf: x.base, L: x.l}
		s := made(t, 1, api.Hard{Term: 1}, g, "", 1)
		s.Commit = x.commit
		next, _ := ok(t, s, tick)
		if got := next.Term == 2; got != x.want || got != (next.Role != api.Follower) || got != (next.Ticks == 0) {
			t.Errorf("members %v, %v, Commit %d: %s", x.base, x.l, x.commit, brief(next))
		}
	}
}

// TestStandsWithoutBeingMember: P17.2, votes of its own don't count then, and all members are asked.
func TestStandsWithoutBeingMember(t *testing.T) {
	s, out := ok(t, begun(t, []int{1, 2}, conf(3, 2)), tick)
	if s.Role != api.Candidate {
		t.Errorf("%s", brief(s))
	}
	says(t, out, api.Message{Kind: api.MsgVote, From: 1, To: 2, Term: 4, Index: 1, LogTerm: 3})
	s, out = ok(t, s, hear(api.Message{Kind: api.MsgGrant, From: 2, To: 1, Term: 4, Ok: true}))
	if s.Role != api.Leader || s.Commit != 0 {
		t.Errorf("%s", brief(s))
	}
	says(t, out, api.Message{Kind: api.MsgAppend, From: 1, To: 2, Term: 4, Index: 1, LogTerm: 3, Entries: []api.Entry{none(4)}})
	s, out = ok(t, s, hear(api.Message{Kind: api.MsgAck, From: 2, To: 1, Term: 4, Ok: true, Index: 2}))
	is(t, s, api.Raft{Id: 1, Term: 4, Vote: 1, Log: api.Log{BaseConf: []int{1, 2}, L: []api.Entry{conf(3, 2), none(4)}}, Commit: 2, Timeout: 1}) // all is committed, and it follows
	says(t, out)
}

// TestGreatestTerm: P17.2, in a term of 2^62 nobody stands.
func TestGreatestTerm(t *testing.T) {
	for _, l := range [][]int{{1}, {1, 2, 3}} {
		for term, stands := range map[uint64]bool{0: true, maxTerm - 2: true, maxTerm - 1: true, maxTerm: false, maxTerm + 1: false, 1 << 63: false, maxIndex: false} {
			s := made(t, 1, api.Hard{Term: term}, api.Log{BaseConf: l}, "", 1)
			next, out := ok(t, s, tick)
			if !stands {
				s.Ticks = 1
				is(t, next, s)
				says(t, out)
			} else if next.Term != term+1 || next.Role == api.Follower {
				t.Errorf("%s", brief(next))
			}
		}
	}
}

// TestStandsAnew: P17.2, a candidate that isn't chosen stands in the next term, without the votes of the last.
func TestStandsAnew(t *testing.T) {
	s := begun(t, []int{1, 2, 3, 4, 5}, none(2), none(5))
	s, _ = ok(t, s, tick)
	s, _ = ok(t, s, hear(api.Message{Kind: api.MsgGrant, From: 2, To: 1, Term: 6, Ok: true}))
	if !slices.Equal(s.Votes, []int{1, 2}) {
		t.Errorf("%s", brief(s))
	}
	s, out := ok(t, s, tick)
	is(t, s, api.Raft{Id: 1, Term: 7, Vote: 1, Role: api.Candidate, Log: s.Log, Timeout: 1, Votes: []int{1}})
	var want []api.Message
	for node := 2; node <= 5; node++ {
		want = append(want, api.Message{Kind: api.MsgVote, From: 1, To: node, Term: 7, Index: 2, LogTerm: 5})
	}
	says(t, out, want...)
}

// TestForgetsLeader: P17.2, who stands knows no leader any more.
func TestForgetsLeader(t *testing.T) {
	s := made(t, 1, api.Hard{Term: 3}, api.Log{BaseConf: []int{1, 2, 3}}, "", 2)
	s, _ = ok(t, s, hear(api.Message{Kind: api.MsgAppend, From: 2, To: 1, Term: 3}))
	if s.Leader != 2 {
		t.Errorf("%s", brief(s))
	}
	s, _ = ok(t, s, tick)
	if s.Leader != 2 || s.Ticks != 1 || s.Term != 3 {
		t.Errorf("%s", brief(s))
	}
	s, _ = ok(t, s, tick)
	is(t, s, api.Raft{Id: 1, Term: 4, Vote: 1, Role: api.Candidate, Log: s.Log, Timeout: 2, Votes: []int{1}})
}

// TestLeaderTicks: P17.2, EvTick of a leader: each peer is updated, and nothing turns.
func TestLeaderTicks(t *testing.T) {
	s := leads(t, []int{1, 2, 3})
	for range 5 {
		next, out := ok(t, s, tick)
		is(t, next, s)
		for i, node := range []int{2, 3} {
			says(t, out[i:i+1], api.Message{Kind: api.MsgAppend, From: 1, To: node, Term: 1, Entries: []api.Entry{none(1)}})
		}
		if len(out) != 2 {
			t.Errorf("%s", brief(out))
		}
		s = next
	}
	alone := leads(t, []int{1})
	next, out := ok(t, alone, tick)
	is(t, next, alone)
	says(t, out)
}

// TestLeads: P17.2, to lead: the peers, the entry, what is committed, what is said.
func TestLeads(t *testing.T) {
	for _, l := range allMembers() {
		if l[0] != 1 {
			continue
		}
		g := api.Log{Base: 6, BaseTerm: 2, BaseConf: l, L: []api.Entry{none(2), mail(4, "x"), mail(4, "y")}}
		s, out := ok(t, made(t, 1, api.Hard{Term: 7, Vote: 5}, g, "image", 1), tick)
		heard := 1
		for _, node := range l[1:] {
			if 2*heard > len(l) {
				break
			}
			heard++
			s, out = ok(t, s, hear(api.Message{Kind: api.MsgGrant, From: node, To: 1, Term: 8, Ok: true}))
		}
		want := api.Raft{Id: 1, Term: 8, Vote: 1, Role: api.Leader, Leader: 1, Log: deepLog(g), Image: "image", Commit: 6, Timeout: 1}
		want.Log.L = append(want.Log.L, none(8))
		var told []api.Message
		for _, node := range l[1:] {
			want.Peers = append(want.Peers, api.Peer{Node: node, Next: 10})
			told = append(told, api.Message{Kind: api.MsgAppend, From: 1, To: node, Term: 8, Index: 9, LogTerm: 4, Entries: []api.Entry{none(8)}, Commit: 6})
		}
		if len(l) == 1 {
			want.Commit = 10
		}
		is(t, s, want)
		says(t, out, told...)
	}
}

// TestUpdates: P17.2, to update a peer: what it is told of each Next.
func TestUpdates(t *testing.T) {
	image := noise(9000)
	g := api.Log{Base: 20, BaseTerm: 2, BaseConf: []int{1, 2}}
	for i := range 12 {
		g.L = append(g.L, mail(uint64(2+i/3), noise(i)))
	}
	s := made(t, 1, api.Hard{Term: 9}, g, image, 1)
	s.Role, s.Leader, s.Commit = api.Leader, 1, 27
	for next := uint64(1); next <= 33; next++ {
		for _, offset := range []int{0, 1, 4096, 4904, 4905, 8999, 9000} {
			s.Peers = []api.Peer{{Node: 2, Next: next, Offset: offset}}
			_, out := ok(t, s, tick)
			want := api.Message{Kind: api.MsgAppend, From: 1, To: 2, Term: 9, Index: next - 1, Commit: 27}
			if next <= 20 {
				want = api.Message{Kind: api.MsgPiece, From: 1, To: 2, Term: 9, Index: 20, LogTerm: 2, Conf: []int{1, 2}, Offset: offset, Size: 9000, Data: image[offset:min(offset+4096, 9000)]}
			} else {
				want.LogTerm = 2
				if next > 21 {
					want.LogTerm = g.L[next-22].Term
				}
				want.Entries = g.L[next-21 : min(next-21+8, 12)]
			}
			says(t, out, want)
		}
	}
}

// TestUpdatesOfNoImage: P17.2, to update a peer by the empty image.
func TestUpdatesOfNoImage(t *testing.T) {
	s := made(t, 1, api.Hard{Term: 9}, api.Log{Base: 1, BaseTerm: 1, BaseConf: []int{1, 2, 3}}, "", 1)
	s.Role, s.Leader, s.Peers = api.Leader, 1, []api.Peer{{Node: 2, Next: 1}, {Node: 3, Next: 2}}
	_, out := ok(t, s, tick)
	says(t, out,
		api.Message{Kind: api.MsgPiece, From: 1, To: 2, Term: 9, Index: 1, LogTerm: 1, Conf: []int{1, 2, 3}},
		api.Message{Kind: api.MsgAppend, From: 1, To: 3, Term: 9, Index: 1, LogTerm: 1, Commit: 1})
}

// noise is a text of so many bytes, unlike at each place.
func noise(n int) string {
	b := make([]byte, n)
	x := uint32(n)
	for i := range b {
		x = x*1664525 + 1013904223
		b[i] = byte(x >> 24)
	}
	return string(b)
}

// TestTicksOfOthers: P17.2, EvTick of a node that is none of the members, or has none.
func TestTicksOfOthers(t *testing.T) {
	for _, g := range []api.Log{{}, {Base: 3}, {BaseConf: []int{2}}, {BaseConf: []int{2, 3, 4, 5}, L: []api.Entry{mail(1, text(1))}}} {
		s := made(t, 1, api.Hard{}, g, "", 1)
		for i := range 5 {
			next, out := ok(t, s, tick)
			says(t, out)
			s.Ticks = i + 1
			is(t, next, s)
			s = next
		}
	}
	if l := raft.Members(made(t, 1, api.Hard{}, api.Log{Base: 3}, "", 1)); len(l) != 0 {
		t.Error(l)
	}
}
