package raft_test

import (
	"slices"
	"testing"

	"posthorn/api"
)

// anyKinds are the kinds of messages that a mind hears, and others.
var anyKinds = []int{1, 2, 3, 4, 5, 6, 0, -1, 7, 8, 9, 10, 11, 12, 256 + 1, 1<<32 + 1, minInt, minInt + 1, maxInt}

// someStates are a node 1 of three in each role.
func someStates(t *testing.T) []api.Raft {
	t.Helper()
	follower := begun(t, []int{1, 2, 3}, none(3))
	candidate, _ := ok(t, follower, tick)
	return []api.Raft{follower, candidate, leads(t, []int{1, 2, 3}, none(3))}
}

// TestEnvelope: P17.2, messages from and to whom there may be none, of each kind, in each role.
func TestEnvelope(t *testing.T) {
	nodes := []int{1, 2, 3, 4, 5, 0, -1, 6, 256 + 2, 1<<32 + 2, minInt, maxInt}
	for _, s := range someStates(t) {
		for _, kind := range anyKinds {
			for _, from := range nodes {
				for _, to := range nodes {
					m := hear(api.Message{Kind: kind, From: from, To: to, Term: 4, Ok: true})
					if to == 1 && from >= 2 && from <= 5 {
						ok(t, s, m)
					} else {
						refuses(t, s, m, api.ErrArg)
					}
				}
			}
		}
	}
}

// TestGreatTerms: P17.2, messages of terms up to 2^62, and beyond it.
func TestGreatTerms(t *testing.T) {
	for _, s := range someStates(t) {
		for _, kind := range anyKinds {
			for _, term := range []uint64{0, 1, 1 << 32, maxTerm - 1, maxTerm, maxTerm + 1, 1<<63 - 1, 1 << 63, 1<<63 + 5, maxIndex} {
				m := hear(api.Message{Kind: kind, From: 2, To: 1, Term: term})
				if term > maxTerm {
					refuses(t, s, m, api.ErrArg)
					continue
				}
				next, _ := ok(t, s, m)
				want := max(s.Term, term)
				if kind == api.MsgVote && s.Role == api.Leader {
					want = s.Term
				}
				if next.Term != want {
					t.Errorf("kind %d of term %d: %s", kind, term, brief(next))
				}
			}
		}
	}
}

// TestOtherEvents: P17.2, the message of an event that isn't EvHear doesn't count.
func TestOtherEvents(t *testing.T) {
	e := hear(api.Message{Kind: 99, From: 1, To: 9, Term: maxIndex})
	e.Kind = api.EvTick
	ok(t, begun(t, []int{1, 2}), e)
	e.Kind, e.Entry = api.EvPropose, mail(9, "x")
	ok(t, leads(t, []int{1}), e)
	e.Kind, e.Index = api.EvCompact, 1
	ok(t, leads(t, []int{1}), e)
}

// TestFollows: P17.2, to follow: a message of each kind of a greater term makes any node a follower that knows no leader, but of an append or a piece.
func TestFollows(t *testing.T) {
	for _, s := range someStates(t) {
		for _, kind := range anyKinds {
			next, _ := ok(t, s, hear(api.Message{Kind: kind, From: 3, To: 1, Term: 9, Index: 99, LogTerm: 2}))
			want := deep(s)
			want.Term, want.Vote, want.Role, want.Leader, want.Votes, want.Peers = 9, 0, api.Follower, 0, nil, nil
			switch {
			case kind == api.MsgAppend || kind == api.MsgPiece:
				want.Leader = 3
			case kind == api.MsgVote && s.Role == api.Leader:
				want = s
			}
			is(t, next, want)
		}
	}
}

// TestOtherKinds: P17.2, messages of other kinds do nothing in the same term, or one below.
func TestOtherKinds(t *testing.T) {
	for _, s := range someStates(t) {
		for _, kind := range anyKinds {
			for _, term := range []uint64{0, s.Term - 1, s.Term} {
				if kind >= 1 && kind <= 6 {
					continue
				}
				next, out := ok(t, s, hear(api.Message{Kind: kind, From: 3, To: 1, Term: term, Ok: true, Index: 2, Data: "x", Size: 1, Conf: []int{1}, Entries: []api.Entry{none(9)}}))
				is(t, next, s)
				says(t, out)
			}
		}
	}
}

func vote(from int, term, i, end uint64) api.Event {
	return hear(api.Message{Kind: api.MsgVote, From: from, To: 1, Term: term, Index: i, LogTerm: end})
}

// grants checks what a MsgVote is answered.
func grants(t *testing.T, s api.Raft, e api.Event, want bool) api.Raft {
	t.Helper()
	next, out := ok(t, s, e)
	says(t, out, api.Message{Kind: api.MsgGrant, From: 1, To: e.Message.From, Term: next.Term, Ok: want})
	return next
}

// TestVote: P17.2, MsgVote, in the same term: who has the node's vote, and with what end.
func TestVote(t *testing.T) {
	for had := range 6 {
		for from := 2; from <= 5; from++ {
			s := made(t, 1, api.Hard{Term: 6, Vote: had}, api.Log{Base: 9, BaseTerm: 5, BaseConf: []int{1, 2, 3, 4, 5}}, "", 50)
			s.Ticks = 7
			want := had == 0 || had == from
			next := grants(t, s, vote(from, 6, 9, 5), want)
			if want {
				s.Vote, s.Ticks = from, 0
			}
			is(t, next, s)
			is(t, grants(t, s, vote(from, 6, 8, 5), false), s)
			is(t, grants(t, s, vote(from, 6, 99, 4), false), s)
			is(t, grants(t, s, vote(from, 5, 9, 5), false), s)
			is(t, grants(t, s, vote(from, 0, 99, 6), false), s)
			grants(t, s, vote(from, 6, 10, 5), want)
			grants(t, s, vote(from, 6, 0, 6), want)
		}
	}
}

// TestVoteOfGreaterTerm: P17.2, MsgVote of a greater term: the vote of the term below doesn't count, and the term is taken over, whatever is granted.
func TestVoteOfGreaterTerm(t *testing.T) {
	s := made(t, 1, api.Hard{Term: 6, Vote: 4}, api.Log{BaseConf: []int{1, 2, 3}, L: []api.Entry{none(2), none(5)}}, "", 50)
	s.Ticks = 7
	next := grants(t, s, vote(2, 7, 2, 5), true)
	want := deep(s)
	want.Term, want.Vote, want.Ticks = 7, 2, 0
	is(t, next, want)
	grants(t, next, vote(3, 7, 2, 5), false)
	grants(t, next, vote(2, 7, 2, 5), true) // asked twice
	next = grants(t, s, vote(2, 7, 1, 5), false)
	want.Vote, want.Ticks = 0, 7
	is(t, next, want)
	is(t, grants(t, next, vote(3, 7, 9, 9), true), func() api.Raft { want.Vote, want.Ticks = 3, 0; return want }())
}

// TestVoteOfCandidate: P17.2, MsgVote to one that stands itself.
func TestVoteOfCandidate(t *testing.T) {
	s, _ := ok(t, begun(t, []int{1, 2, 3}), tick)
	is(t, grants(t, s, vote(2, 1, 9, 9), false), s)
	is(t, grants(t, s, vote(2, 0, 9, 9), false), s)
	next := grants(t, s, vote(2, 2, 0, 0), true)
	is(t, next, api.Raft{Id: 1, Term: 2, Vote: 2, Log: s.Log, Timeout: 1})
	s.Vote = 0 // no candidate is so, but its Role alone is asked
	grants(t, s, vote(2, 1, 9, 9), false)
}

// TestVoteOfLeader: P17.2, MsgVote to one that leads: of a greater term it is passed over, else refused.
func TestVoteOfLeader(t *testing.T) {
	s := leads(t, []int{1, 2, 3})
	for _, term := range []uint64{2, 3, maxTerm} {
		next, out := ok(t, s, vote(2, term, 9, 9))
		is(t, next, s)
		says(t, out)
	}
	is(t, grants(t, s, vote(2, 1, 9, 9), false), s)
	is(t, grants(t, s, vote(2, 0, 9, 9), false), s)
}

// TestPassedOver: P17.2, MsgVote of a greater term is passed over by one that has heard of a leader less than three ticks ago.
func TestPassedOver(t *testing.T) {
	for leader := range 4 {
		for ticks := range 6 {
			s := made(t, 1, api.Hard{Term: 6, Vote: 1}, api.Log{BaseConf: []int{1, 2, 3}}, "", 50)
			s.Leader, s.Ticks = leader, ticks
			if leader != 0 && ticks < 3 {
				next, out := ok(t, s, vote(2, 7, 0, 0))
				is(t, next, s)
				says(t, out)
			} else {
				is(t, grants(t, s, vote(2, 7, 0, 0), true), api.Raft{Id: 1, Term: 7, Vote: 2, Log: s.Log, Timeout: 50})
			}
			grants(t, s, vote(2, 6, 0, 0), false) // not of a greater one: it is answered
			s.Vote = 0
			grants(t, s, vote(2, 6, 0, 0), true)
		}
	}
	s := made(t, 1, api.Hard{Term: 6}, api.Log{BaseConf: []int{1, 2, 3}}, "", 50)
	s, _ = ok(t, s, hear(api.Message{Kind: api.MsgAppend, From: 3, To: 1, Term: 6}))
	for range 3 {
		next, out := ok(t, s, vote(2, 9, 9, 9))
		is(t, next, s)
		says(t, out)
		s, _ = ok(t, s, tick)
	}
	grants(t, s, vote(2, 9, 9, 9), true)
}

func grant(from int, term uint64, granted bool) api.Event {
	return hear(api.Message{Kind: api.MsgGrant, From: from, To: 1, Term: term, Ok: granted})
}

// TestGrant: P17.2, MsgGrant: votes, rising and once, until they are a majority of the members.
func TestGrant(t *testing.T) {
	s, _ := ok(t, begun(t, []int{1, 2, 3, 4}), tick)
	for _, e := range []api.Event{grant(2, 1, false), grant(2, 0, true)} {
		next, out := ok(t, s, e)
		is(t, next, s)
		says(t, out)
	}
	for _, from := range []int{5, 5, 3, 3, 5} { // 5 is no member
		var out []api.Message
		s, out = ok(t, s, grant(from, 1, true))
		says(t, out)
		if s.Role != api.Candidate {
			t.Fatalf("%s", brief(s))
		}
	}
	if !slices.Equal(s.Votes, []int{1, 3, 5}) {
		t.Errorf("%s", brief(s))
	}
	s, out := ok(t, s, grant(2, 1, true))
	if s.Role != api.Leader || len(s.Votes) != 0 || len(s.Peers) != 3 || len(out) != 3 {
		t.Errorf("%s", brief(s))
	}
	next, out := ok(t, s, grant(4, 1, true)) // it is none that stands
	is(t, next, s)
	says(t, out)
	follower := begun(t, []int{1, 2, 3}, none(1))
	next, out = ok(t, follower, grant(2, 1, true))
	is(t, next, follower)
	says(t, out)
}

// TestGrantPlaces: P17.2, MsgGrant: a vote stands in its place among the others.
func TestGrantPlaces(t *testing.T) {
	for _, from := range []int{1, 2, 4, 5} {
		s, _ := ok(t, made(t, 3, api.Hard{}, api.Log{BaseConf: []int{1, 2, 3, 4, 5}}, "", 1), tick)
		for range 2 { // told twice, it counts once
			s, _ = ok(t, s, hear(api.Message{Kind: api.MsgGrant, From: from, To: 3, Term: 1, Ok: true}))
			if want := []int{min(from, 3), max(from, 3)}; !slices.Equal(s.Votes, want) || s.Role != api.Candidate {
				t.Errorf("%s", brief(s))
			}
		}
	}
}

// TestGrantOfOthers: P17.2, votes of nodes that are no members don't make a leader, however many they are.
func TestGrantOfOthers(t *testing.T) {
	s, _ := ok(t, begun(t, []int{1, 2, 3}), tick)
	for _, from := range []int{4, 5} {
		s, _ = ok(t, s, grant(from, 1, true))
	}
	if !slices.Equal(s.Votes, []int{1, 4, 5}) || s.Role != api.Candidate {
		t.Errorf("%s", brief(s))
	}
	s, _ = ok(t, s, grant(3, 1, true))
	if s.Role != api.Leader {
		t.Errorf("%s", brief(s))
	}
}
