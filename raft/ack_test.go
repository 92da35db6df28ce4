package raft_test

import (
	"slices"
	"testing"

	"posthorn/api"
)

// told is node 1 of five that leads in term 6: a base at 5, entries up to 20, of which those from 15 on are of its term.
func told(t *testing.T) api.Raft {
	t.Helper()
	g := api.Log{Base: 5, BaseTerm: 2, BaseConf: []int{1, 2, 3, 4, 5}}
	for i := 6; i < 15; i++ {
		g.L = append(g.L, mail(3, noise(i)))
	}
	s, _ := ok(t, made(t, 1, api.Hard{Term: 5}, g, noise(9000), 1), tick)
	for _, from := range []int{2, 3} {
		s, _ = ok(t, s, grant(from, 6, true))
	}
	for range 5 {
		s, _ = ok(t, s, propose("x"))
	}
	s.Peers[0] = api.Peer{Node: 2, Next: 12, Match: 9}
	s.Peers[1] = api.Peer{Node: 3, Next: 3, Match: 2, Offset: 4096}
	return s
}

// sends is what node 1 tells a node of entries from an index on.
func sends(s api.Raft, to int, next uint64) api.Message {
	x := next - s.Log.Base - 1
	m := api.Message{Kind: api.MsgAppend, From: 1, To: to, Term: s.Term, Index: next - 1, LogTerm: s.Log.BaseTerm, Commit: s.Commit}
	if x > 0 {
		m.LogTerm = s.Log.L[x-1].Term
	}
	m.Entries = s.Log.L[x:min(x+8, uint64(len(s.Log.L)))]
	return m
}

// TestAck: P17.2, MsgAck that is Ok, of each index.
func TestAck(t *testing.T) {
	for i := range uint64(24) {
		s := told(t)
		next, out := ok(t, s, ack(2, 6, i))
		if i <= 9 || i > 20 {
			is(t, next, s)
			says(t, out)
			continue
		}
		s.Peers[0] = api.Peer{Node: 2, Next: max(12, i+1), Match: i}
		is(t, next, s) // one more of five isn't a majority yet
		if i == 20 {
			says(t, out)
		} else {
			says(t, out, sends(s, 2, max(12, i+1)))
		}
	}
	s := told(t)
	for _, i := range great {
		next, out := ok(t, s, ack(2, 6, i))
		is(t, next, s)
		says(t, out)
	}
}

// TestAckOfImage: P17.2, MsgAck that is Ok of one that was sent an image: Offset is 0, and entries follow.
func TestAckOfImage(t *testing.T) {
	s := told(t)
	next, out := ok(t, s, ack(3, 6, 5))
	s.Peers[1] = api.Peer{Node: 3, Next: 6, Match: 5}
	is(t, next, s)
	says(t, out, sends(s, 3, 6))
	s = told(t)
	next, out = ok(t, s, ack(3, 6, 4)) // less than the image: it goes on from its beginning
	s.Peers[1] = api.Peer{Node: 3, Next: 5, Match: 4}
	is(t, next, s)
	says(t, out, api.Message{Kind: api.MsgPiece, From: 1, To: 3, Term: 6, Index: 5, LogTerm: 2, Conf: []int{1, 2, 3, 4, 5}, Size: 9000, Data: s.Image[:4096]})
}

// TestAckCommits: P17.2, MsgAck that makes a majority: it commits, and tells the new Commit to that peer alone.
func TestAckCommits(t *testing.T) {
	s := told(t)
	s, _ = ok(t, s, ack(2, 6, 19))
	next, out := ok(t, s, ack(4, 6, 17))
	s.Peers[2] = api.Peer{Node: 4, Next: 18, Match: 17}
	s.Commit = 17
	is(t, next, s)
	says(t, out, sends(s, 4, 18))
	next, out = ok(t, next, ack(5, 6, 20))
	s.Peers[3] = api.Peer{Node: 5, Next: 21, Match: 20}
	s.Commit = 19
	is(t, next, s)
	says(t, out)
}

func nack(from int, term, i uint64) api.Event {
	return hear(api.Message{Kind: api.MsgAck, From: from, To: 1, Term: term, Index: i})
}

// TestNack: P17.2, MsgAck that isn't Ok: Next falls, but not to Match, and never rises.
func TestNack(t *testing.T) {
	for _, i := range append([]uint64{0, 1, 7, 8, 9, 10, 11, 12, 13, 14, 15, 19, 20, 21, 22}, great...) {
		s := told(t)
		next, out := ok(t, s, nack(2, 6, i))
		to := uint64(12)
		switch {
		case i <= 9:
			to = 10
		case i == 10:
			to = 11
		}
		s.Peers[0] = api.Peer{Node: 2, Next: to, Match: 9}
		is(t, next, s)
		says(t, out, sends(s, 2, to))
	}
}

// TestNackToImage: P17.2, MsgAck that isn't Ok, of one whose next entries lie in the base: it is sent the image from where it was.
func TestNackToImage(t *testing.T) {
	for i := range uint64(9) {
		s := told(t)
		s.Peers[3] = api.Peer{Node: 5, Next: 9, Offset: 8192}
		next, out := ok(t, s, nack(5, 6, i))
		to := min(i+1, 9)
		s.Peers[3].Next = to
		is(t, next, s)
		if to > 5 {
			says(t, out, sends(s, 5, to))
		} else {
			says(t, out, api.Message{Kind: api.MsgPiece, From: 1, To: 5, Term: 6, Index: 5, LogTerm: 2, Conf: []int{1, 2, 3, 4, 5}, Offset: 8192, Size: 9000, Data: s.Image[8192:]})
		}
	}
}

// TestGot: P17.2, MsgGot, of each offset.
func TestGot(t *testing.T) {
	for _, offset := range []int{0, 1, 4095, 4096, 4097, 8191, 8192, 8999, 9000, 9001, 9002, -1, -4096, minInt, maxInt, 1<<32 + 1} {
		s := told(t)
		next, out := ok(t, s, hear(api.Message{Kind: api.MsgGot, From: 3, To: 1, Term: 6, Index: 5, Offset: offset}))
		if offset < 0 || offset > 9000 {
			is(t, next, s)
			says(t, out)
			continue
		}
		s.Peers[1].Offset = offset
		is(t, next, s)
		says(t, out, api.Message{Kind: api.MsgPiece, From: 1, To: 3, Term: 6, Index: 5, LogTerm: 2, Conf: []int{1, 2, 3, 4, 5}, Offset: offset, Size: 9000, Data: s.Image[offset:min(offset+4096, 9000)]})
	}
}

// TestGotUnfit: P17.2, MsgGot of another index, or of one that isn't sent an image.
func TestGotUnfit(t *testing.T) {
	s := told(t)
	for _, i := range append([]uint64{0, 1, 4, 6, 20}, great...) {
		next, out := ok(t, s, hear(api.Message{Kind: api.MsgGot, From: 3, To: 1, Term: 6, Index: i, Offset: 1}))
		is(t, next, s)
		says(t, out)
	}
	for next := uint64(1); next < 9; next++ {
		s := told(t)
		s.Peers[1].Next = next
		then, out := ok(t, s, hear(api.Message{Kind: api.MsgGot, From: 3, To: 1, Term: 6, Index: 5, Offset: 1}))
		if next <= 5 {
			s.Peers[1].Offset = 1
			if len(out) != 1 {
				t.Errorf("%s", brief(out))
			}
		} else {
			says(t, out)
		}
		is(t, then, s)
	}
}

// TestOfNoPeer: P17.2, MsgAck and MsgGot of a node that is no peer, of a term below, and to one that doesn't lead.
func TestOfNoPeer(t *testing.T) {
	for _, kind := range []int{api.MsgAck, api.MsgGot} {
		for _, well := range []bool{false, true} {
			m := api.Message{Kind: kind, From: 3, To: 1, Term: 6, Ok: well, Index: 5, Offset: 1}
			s := told(t)
			s.Peers = slices.Delete(s.Peers, 1, 2)
			next, out := ok(t, s, hear(m))
			is(t, next, s)
			says(t, out)
			for _, term := range []uint64{0, 5} {
				m.Term = term
				next, out = ok(t, told(t), hear(m))
				is(t, next, told(t))
				says(t, out)
			}
			m.Term = 6
			for _, role := range []int{api.Follower, api.Candidate} { // with peers, as no such node has them
				s := told(t)
				s.Role = role
				next, out := ok(t, s, hear(m))
				is(t, next, s)
				says(t, out)
			}
		}
	}
}

// TestNackOfGreaterTerm: P17.2, a leader that hears of a greater term leads no more, and does nothing else.
func TestNackOfGreaterTerm(t *testing.T) {
	s := told(t)
	for _, kind := range []int{api.MsgAck, api.MsgGot, api.MsgGrant} {
		next, out := ok(t, s, hear(api.Message{Kind: kind, From: 3, To: 1, Term: 7, Index: 5, Ok: true}))
		want := deep(s)
		want.Term, want.Vote, want.Role, want.Leader, want.Peers = 7, 0, api.Follower, 0, nil
		is(t, next, want)
		says(t, out)
	}
}
