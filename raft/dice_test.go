package raft_test

import (
	"math/rand"
	"testing"

	"posthorn/api"
	"posthorn/raft"
)

// someTerm is a term near a mind's own.
func someTerm(dice *rand.Rand, s api.Raft) uint64 {
	switch dice.Intn(8) {
	case 0:
		return s.Term + 1
	case 1:
		return s.Term - min(s.Term, uint64(dice.Intn(3)))
	case 2:
		return s.Log.BaseTerm
	}
	return s.Term
}

// someIndex is an index near one of a mind's own.
func someIndex(dice *rand.Rand, s api.Raft) uint64 {
	l := []uint64{s.Log.Base, s.Log.Base + uint64(len(s.Log.L)), s.Commit, s.PieceIndex, s.Log.Base + uint64(dice.Intn(len(s.Log.L)+1))}
	for _, p := range s.Peers {
		l = append(l, p.Next, p.Match)
	}
	i := l[dice.Intn(len(l))] + uint64(dice.Intn(4))
	return i - min(i, uint64(dice.Intn(3)))
}

// termAt is the term at an index, mostly.
func termAt(dice *rand.Rand, s api.Raft, i uint64) uint64 {
	if dice.Intn(6) == 0 {
		return someTerm(dice, s)
	}
	if i > s.Log.Base && i-s.Log.Base <= uint64(len(s.Log.L)) {
		return s.Log.L[i-s.Log.Base-1].Term
	}
	return s.Log.BaseTerm
}

// someEntries are entries whose terms don't fall, up to a mind's own.
func someEntries(dice *rand.Rand, s api.Raft, from uint64) []api.Entry {
	var l []api.Entry
	term := termAt(dice, s, from)
	for i := range uint64(dice.Intn(5)) {
		term = max(term, termAt(dice, s, from+1+i))
		if dice.Intn(6) == 0 {
			term = max(term, s.Term)
		}
		switch dice.Intn(4) {
		case 0:
			l = append(l, conf(term, allMembers()[dice.Intn(31)]...))
		case 1:
			l = append(l, none(term))
		default:
			l = append(l, mail(term, noise(dice.Intn(5))))
		}
	}
	return l
}

// someMessage is a message that may come to a mind.
func someMessage(dice *rand.Rand, s api.Raft) api.Message {
	m := api.Message{Kind: dice.Intn(6) + 1, From: dice.Intn(5) + 1, To: s.Id, Term: someTerm(dice, s), Index: someIndex(dice, s), Ok: dice.Intn(3) > 0}
	switch dice.Intn(40) {
	case 0:
		m.To = dice.Intn(7)
	case 1:
		m.Kind = dice.Intn(14) - 1
	case 2:
		if m.Kind != api.MsgPiece { // it would be the log's base, and that isn't right above 2^62
			m.Index = great[dice.Intn(len(great))]
		}
	}
	m.LogTerm = termAt(dice, s, m.Index)
	m.Entries, m.Commit = someEntries(dice, s, m.Index), someIndex(dice, s)
	m.Conf = allMembers()[dice.Intn(31)]
	if m.Kind == api.MsgPiece || m.Kind == api.MsgGot {
		m.Size, m.Offset = dice.Intn(9000), []int{0, len(s.Piece), dice.Intn(9000), len(s.Image)}[dice.Intn(4)]
		if dice.Intn(2) == 0 {
			m.Index = s.PieceIndex
			m.LogTerm = s.PieceTerm
		}
		if m.Size >= m.Offset {
			m.Data = noise(min(4096, []int{m.Size - m.Offset, dice.Intn(m.Size - m.Offset + 1)}[dice.Intn(2)]))
		}
	}
	return m
}

// someEvent is an event that may happen to a mind.
func someEvent(dice *rand.Rand, s api.Raft) api.Event {
	switch dice.Intn(12) {
	case 0, 1:
		return tick
	case 2:
		return propose(noise(dice.Intn(9)))
	case 3:
		return change(allMembers()[dice.Intn(31)]...)
	case 4:
		if dice.Intn(3) == 0 {
			return compact(someIndex(dice, s), noise(dice.Intn(9000)))
		}
	}
	return hear(someMessage(dice, s))
}

// TestDice: P17.2, long rows of events of dice, by the other road.
func TestDice(t *testing.T) {
	dice := rand.New(rand.NewSource(17))
	roles, bases := [3]int{}, 0
	for range 1500 {
		g := api.Log{Base: uint64(dice.Intn(3) * dice.Intn(5)), BaseTerm: uint64(dice.Intn(2)), BaseConf: allMembers()[dice.Intn(31)]}
		s := made(t, dice.Intn(5)+1, api.Hard{Term: 1, Vote: dice.Intn(6)}, g, "", dice.Intn(4)+1)
		for range 60 {
			s, _, _ = steps(t, s, someEvent(dice, s))
			roles[s.Role]++
			if s.Log.Base != g.Base {
				bases++
			}
			if len(s.Log.L) > 40 {
				break
			}
		}
	}
	for role, n := range roles {
		if n < 2000 {
			t.Errorf("%d of role %d", n, role)
		}
	}
	if bases < 5000 {
		t.Errorf("%d behind another base", bases)
	}
}

// TestDiceOfLeaders: P17.2, rows of what leaders hear, by the other road.
func TestDiceOfLeaders(t *testing.T) {
	dice := rand.New(rand.NewSource(1717))
	commits, changes, gone := 0, 0, 0
	for range 1500 {
		l := allMembers()[dice.Intn(16)*2] // with node 1
		s := leads(t, l, conf(1, l...))
		for range 60 {
			was := s
			e := someEvent(dice, s)
			if e.Kind == api.EvHear && dice.Intn(8) > 0 {
				e.Message.Kind, e.Message.Term = []int{api.MsgAck, api.MsgAck, api.MsgGot}[dice.Intn(3)], s.Term
			}
			s, _, _ = steps(t, s, e)
			if s.Commit > was.Commit {
				commits++
			}
			if e.Entry.Kind == api.EntConf && len(s.Log.L) > len(was.Log.L) {
				changes++
			}
			if was.Role == api.Leader && s.Role != api.Leader {
				gone++
				break
			}
		}
	}
	if commits < 1500 || changes < 250 || gone < 400 {
		t.Errorf("%d commits, %d changes, %d gone", commits, changes, gone)
	}
}

// TestGrid: P17.2, each of some states on each of many messages, by the other road.
func TestGrid(t *testing.T) {
	if testing.Short() {
		t.Skip("it takes seconds")
	}
	for _, s := range grid(t) {
		last := s.Log.Base + uint64(len(s.Log.L))
		indices := []uint64{0, s.Log.Base - min(s.Log.Base, 1), s.Log.Base, s.Log.Base + 1, s.Commit, s.Commit + 1, last - 1, last, last + 1, maxIndex}
		for kind := 1; kind <= 6; kind++ {
			for _, from := range []int{3, 5} {
				for term := s.Term - 1; term <= s.Term+1; term++ {
					for _, i := range indices {
						if kind == api.MsgPiece && i == maxIndex { // it would be the log's base, and isn't right
							continue
						}
						for _, end := range []uint64{0, 1, 2, 3, 4} {
							m := api.Message{Kind: kind, From: from, To: s.Id, Term: term, Index: i, LogTerm: end, Commit: last, Conf: []int{1, 4}}
							steps(t, s, hear(m))
							m.Ok, m.Entries, m.Offset, m.Size, m.Data = true, []api.Entry{mail(end, "a"), conf(s.Term, 2, 3)}, 3, 5, "ab"
							steps(t, s, hear(m))
							m.Offset, m.Data = 0, "abcde"
							steps(t, s, hear(m))
						}
					}
				}
			}
		}
		for i := range last + 2 {
			steps(t, s, compact(i, "new image"))
		}
		for _, l := range allMembers() {
			steps(t, s, change(l...))
		}
		for range 4 {
			s, _, _ = steps(t, s, propose("x"))
			s, _, _ = steps(t, s, tick)
		}
	}
}

// grid are states of many sorts.
func grid(t *testing.T) []api.Raft {
	t.Helper()
	var states []api.Raft
	for _, l := range [][]api.Entry{nil, {none(1), mail(2, "b"), mail(2, "c")}, {mail(1, "a"), conf(1, 1, 2), mail(3, "c")}, {conf(2, 2, 3), conf(2, 2)}} {
		for _, base := range []uint64{0, 4} {
			for _, vote := range []int{0, 3} {
				g := api.Log{Base: base, BaseTerm: min(base, 1), BaseConf: []int{1, 2, 3}, L: l}
				s := made(t, 1, api.Hard{Term: 3, Vote: vote}, g, "image", 4)
				for commit := base; commit <= base+uint64(len(l)); commit += 2 {
					s.Commit, s.Leader, s.Ticks = commit, vote, int(commit)
					s.Piece, s.PieceIndex, s.PieceTerm = "old", base+1, 2
					states = append(states, s)
				}
				s.Ticks = 3
				s, _, _ = raft.Step(s, tick)
				states = append(states, s)
				for _, from := range []int{2, 3} {
					s, _, _ = raft.Step(s, hear(api.Message{Kind: api.MsgGrant, From: from, To: 1, Term: s.Term, Ok: true}))
				}
				for range 2 {
					states = append(states, s)
					s, _, _ = raft.Step(s, ack(2, s.Term, base+uint64(len(l))))
				}
			}
		}
	}
	return states
}
