package raft_test

import (
	"slices"
	"testing"

	"posthorn/api"
	"posthorn/raft"
)

// given is a log with a base, whose members change.
func given() api.Log {
	return api.Log{Base: 5, BaseTerm: 2, BaseConf: []int{1, 2, 3}, L: []api.Entry{none(2), conf(3, 1, 2, 3, 4), mail(3, "horn")}}
}

// TestNew: P17.1, each node and each timeout that there is, and others.
func TestNew(t *testing.T) {
	for _, id := range []int{1, 2, 3, 4, 5, 0, -1, 6, 7, 256 + 1, 1<<32 + 1, minInt, maxInt} {
		for _, timeout := range []int{1, 2, 9, 999, 1000, 0, -1, 1001, 1<<32 + 1, minInt, maxInt} {
			got, e := raft.New(id, api.Hard{Term: 4, Vote: 3, Life: 9}, given(), "image", timeout)
			want, wantE := api.Raft{Id: id, Term: 4, Vote: 3, Log: given(), Image: "image", Commit: 5, Timeout: timeout}, api.OK
			if id < 1 || id > 5 || timeout < 1 || timeout > 1000 {
				want, wantE = api.Raft{}, api.ErrArg
			}
			if e != wantE {
				t.Errorf("New(%d, .., %d): %d", id, timeout, e)
			}
			is(t, got, want)
		}
	}
}

// TestNewOfAll: P17.1, terms and votes, logs and images of all sorts.
func TestNewOfAll(t *testing.T) {
	for _, term := range append([]uint64{0, 1}, great...) {
		for vote := range 6 {
			is(t, made(t, 2, api.Hard{Term: term, Vote: vote, Life: term}, api.Log{}, "", 7), api.Raft{Id: 2, Term: term, Vote: vote, Timeout: 7})
		}
	}
	for _, base := range []uint64{0, 1, 9, 1 << 32, maxBase} {
		for _, l := range append(allMembers(), nil) {
			g := api.Log{Base: base, BaseTerm: 1, BaseConf: l}
			is(t, made(t, 2, api.Hard{}, g, "x", 7), api.Raft{Id: 2, Log: g, Image: "x", Commit: base, Timeout: 7})
		}
	}
	is(t, made(t, 2, api.Hard{}, api.Log{BaseConf: []int{}, L: []api.Entry{}}, "", 7), api.Raft{Id: 2, Timeout: 7})
}

// TestMembers: P17.1, the members at the last index.
func TestMembers(t *testing.T) {
	for _, l := range allMembers() {
		g := api.Log{Base: 3, BaseConf: l}
		members(t, made(t, 1, api.Hard{}, g, "", 1), l)
		g.L = []api.Entry{none(1), mail(1, text(2, 3))}
		members(t, made(t, 1, api.Hard{}, g, "", 1), l)
		members(t, made(t, 1, api.Hard{}, api.Log{Base: 3, BaseConf: []int{4}, L: []api.Entry{conf(1, l...), mail(1, "")}}, "", 1), l)
	}
	members(t, made(t, 1, api.Hard{}, given(), "", 1), []int{1, 2, 3, 4}) // it isn't committed yet
	members(t, made(t, 1, api.Hard{}, api.Log{}, "", 1), nil)
	members(t, api.Raft{}, nil)
}

func members(t *testing.T, s api.Raft, want []int) {
	t.Helper()
	if got := raft.Members(s); !slices.Equal(got, want) {
		t.Errorf("Members(%s): %v, must be %v", brief(s), got, want)
	}
}

// TestKinds: P17.2, events of other kinds.
func TestKinds(t *testing.T) {
	for _, s := range []api.Raft{begun(t, []int{1}), begun(t, []int{1, 2, 3}, none(1)), leads(t, []int{1, 2})} {
		for _, kind := range []int{0, -1, 5, 6, 256 + 1, 1<<32 + 1, 1<<32 + 4, minInt, minInt + 1, maxInt} {
			e := propose("x")
			e.Kind, e.Index, e.Message = kind, 1, api.Message{Kind: api.MsgVote, From: 2, To: 1, Term: 9}
			refuses(t, s, e, api.ErrArg)
		}
	}
}

// TestExamples: the chapter's examples.
func TestExamples(t *testing.T) {
	s, out := ok(t, begun(t, []int{1}), tick)
	is(t, s, api.Raft{Id: 1, Term: 1, Vote: 1, Role: api.Leader, Leader: 1, Log: api.Log{BaseConf: []int{1}, L: []api.Entry{none(1)}}, Commit: 1, Timeout: 1})
	says(t, out)
	s, out = ok(t, s, propose("horn"))
	is(t, s, api.Raft{Id: 1, Term: 1, Vote: 1, Role: api.Leader, Leader: 1, Log: api.Log{BaseConf: []int{1}, L: []api.Entry{none(1), mail(1, "horn")}}, Commit: 2, Timeout: 1})
	says(t, out)

	s, out = ok(t, begun(t, []int{1, 2, 3}), tick)
	is(t, s, api.Raft{Id: 1, Term: 1, Vote: 1, Role: api.Candidate, Log: api.Log{BaseConf: []int{1, 2, 3}}, Timeout: 1, Votes: []int{1}})
	says(t, out, api.Message{Kind: api.MsgVote, From: 1, To: 2, Term: 1}, api.Message{Kind: api.MsgVote, From: 1, To: 3, Term: 1})
	s, out = ok(t, s, hear(api.Message{Kind: api.MsgGrant, From: 3, To: 1, Term: 1, Ok: true}))
	is(t, s, api.Raft{Id: 1, Term: 1, Vote: 1, Role: api.Leader, Leader: 1, Log: api.Log{BaseConf: []int{1, 2, 3}, L: []api.Entry{none(1)}}, Timeout: 1, Peers: []api.Peer{{Node: 2, Next: 1}, {Node: 3, Next: 1}}})
	says(t, out,
		api.Message{Kind: api.MsgAppend, From: 1, To: 2, Term: 1, Entries: []api.Entry{none(1)}},
		api.Message{Kind: api.MsgAppend, From: 1, To: 3, Term: 1, Entries: []api.Entry{none(1)}})
}
