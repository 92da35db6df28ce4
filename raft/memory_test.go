package raft_test

import (
	"math/rand"
	"reflect"
	"slices"
	"strings"
	"testing"
	"time"
	"unsafe"

	"posthorn/api"
	"posthorn/raft"
)

// turnText turns a text's bytes, which must not be a constant's (nor a single byte's, of which the language has some ready).
func turnText(s string) {
	b := unsafe.Slice(unsafe.StringData(s), len(s))
	for i := range b {
		b[i] ^= 1
	}
}

func turnEntries(l []api.Entry) {
	for _, x := range l {
		turnText(x.Data)
	}
	fill(l, api.Entry{Term: 99, Kind: 99})
}

// fill writes over a list, and over the room behind it.
func fill[T any](l []T, x T) {
	l = l[:cap(l)]
	for i := range l {
		l[i] = x
	}
}

func turnLog(g api.Log) {
	fill(g.BaseConf, 99)
	turnEntries(g.L)
}

// turn turns all of a state's memory.
func turn(s api.Raft) {
	turnLog(s.Log)
	turnText(s.Image)
	turnText(s.Piece)
	fill(s.Votes, 99)
	fill(s.Peers, api.Peer{Node: 99})
}

func turnMessage(m api.Message) {
	turnEntries(m.Entries)
	fill(m.Conf, 99)
	turnText(m.Data)
}

func turnEvent(e api.Event) {
	turnMessage(e.Message)
	turnText(e.Entry.Data)
	turnText(e.Image)
}

// spare is the same list with room behind it, in which something stands.
func spare[T any](l []T, x T) []T {
	return slices.Concat(l, slices.Repeat([]T{x}, 9))[: len(l) : len(l)+5]
}

func spareLog(g api.Log) api.Log {
	g = deepLog(g)
	g.BaseConf, g.L = spare(g.BaseConf, 98), spare(g.L, api.Entry{Term: 98})
	return g
}

// spareState is the same state in memory of its own, with room behind its lists.
func spareState(s api.Raft) api.Raft {
	s = deep(s)
	s.Log = spareLog(s.Log)
	s.Votes, s.Peers = spare(s.Votes, 98), spare(s.Peers, api.Peer{Node: 98})
	return s
}

func spareEvent(e api.Event) api.Event {
	e = deepEvent(e)
	e.Message.Entries, e.Message.Conf = spare(e.Message.Entries, api.Entry{Term: 98}), spare(e.Message.Conf, 98)
	return e
}

// whole is a state with the room behind its lists.
func whole(s api.Raft) api.Raft {
	s.Log.BaseConf, s.Log.L = s.Log.BaseConf[:cap(s.Log.BaseConf)], s.Log.L[:cap(s.Log.L)]
	s.Votes, s.Peers = s.Votes[:cap(s.Votes)], s.Peers[:cap(s.Peers)]
	return s
}

func wholeEvent(e api.Event) api.Event {
	e.Message.Entries, e.Message.Conf = e.Message.Entries[:cap(e.Message.Entries)], e.Message.Conf[:cap(e.Message.Conf)]
	return e
}

// TestKeepsNone: P17.3, what is handed in stays, the room behind its lists too, and what is told is new memory, each list apart from the others.
func TestKeepsNone(t *testing.T) {
	dice := rand.New(rand.NewSource(173))
	for range 600 {
		g := api.Log{Base: uint64(dice.Intn(3)), BaseConf: allMembers()[dice.Intn(16)*2]}
		s := made(t, 1, api.Hard{Term: 1}, g, "image", dice.Intn(3)+1)
		for range 30 {
			e := someEvent(dice, s)
			in, event := spareState(s), spareEvent(e)
			wasIn, wasEvent := deep(whole(in)), deepEvent(wholeEvent(event))
			next, out, _ := raft.Step(in, event)
			wasNext, wasOut := deep(next), deepMessages(out)
			for i, m := range out {
				turnMessage(m)
				if !reflect.DeepEqual(deepMessages(out[i+1:]), append([]api.Message(nil), wasOut[i+1:]...)) {
					t.Fatalf("what is said on %s shares memory", brief(e))
				}
			}
			is(t, next, wasNext)
			turn(next)
			if !reflect.DeepEqual(deep(whole(in)), wasIn) || !reflect.DeepEqual(deepEvent(wholeEvent(event)), wasEvent) {
				t.Fatalf("Step of %s on %s shares what it was handed", brief(s), brief(e))
			}
			next, out, _ = raft.Step(in, event)
			turn(in)
			turnEvent(event)
			is(t, next, wasNext)
			says(t, out, wasOut...)
			s = wasNext
		}
	}
}

// TestNewKeepsNone: P17.3, New and Members tell new memory.
func TestNewKeepsNone(t *testing.T) {
	g, image := spareLog(given()), noise(9)
	wasG := deepLog(g)
	s := made(t, 1, api.Hard{}, g, image, 1)
	was := deep(s)
	turn(s)
	if !reflect.DeepEqual(deepLog(g), wasG) || image != noise(9) {
		t.Error("New shares what it was handed")
	}
	s = made(t, 1, api.Hard{}, g, image, 1)
	turnLog(g)
	turnText(image)
	is(t, s, was)
	for _, s := range []api.Raft{was, made(t, 1, api.Hard{}, api.Log{BaseConf: []int{2, 3}}, "", 1)} {
		want := raft.Members(s)
		was := deep(s)
		l := raft.Members(s)
		fill(l, 99)
		is(t, s, was)
		members(t, s, want)
	}
}

// TestSameAgain: what a step answers hangs on what it was handed alone.
func TestSameAgain(t *testing.T) {
	dice := rand.New(rand.NewSource(174))
	s := leads(t, []int{1, 2, 3})
	for range 300 {
		e := someEvent(dice, s)
		next, out, errno := raft.Step(s, e)
		for range 3 {
			raft.Step(next, someEvent(dice, next))
			again, outAgain, errnoAgain := raft.Step(s, e)
			is(t, again, next)
			says(t, outAgain, out...)
			if errno != errnoAgain {
				t.Errorf("%d, %d", errno, errnoAgain)
			}
		}
		s = next
	}
}

// someInt is a number of any sort.
func someInt(dice *rand.Rand) int {
	return []int{0, 1, 2, 3, 5, 6, -1, 1 << 32, minInt, minInt + 1, maxInt, maxInt - 1, dice.Intn(9), dice.Intn(9)}[dice.Intn(14)]
}

func someNumber(dice *rand.Rand) uint64 {
	return append([]uint64{0, 1, 2, 3, 4, uint64(dice.Intn(9))}, great...)[dice.Intn(6+len(great))]
}

func someLog(dice *rand.Rand) api.Log {
	g := api.Log{Base: someNumber(dice), BaseTerm: someNumber(dice)}
	for range dice.Intn(4) {
		g.BaseConf = append(g.BaseConf, someInt(dice))
	}
	g.L = wrongEntries(dice)
	return g
}

func wrongEntries(dice *rand.Rand) []api.Entry {
	var l []api.Entry
	for range dice.Intn(4) {
		data := noise(dice.Intn(4))
		if dice.Intn(2) == 0 {
			data = text(allMembers()[dice.Intn(31)]...)
		}
		l = append(l, api.Entry{Term: someNumber(dice), Kind: someInt(dice), Data: data})
	}
	return l
}

// TestWrongStates: P17.3, of states that were not made by New and Step the calls end, and what is handed in stays.
func TestWrongStates(t *testing.T) {
	dice := rand.New(rand.NewSource(175))
	for range 60000 {
		s := api.Raft{Id: dice.Intn(6), Term: someNumber(dice), Vote: someInt(dice), Role: someInt(dice), Leader: someInt(dice), Log: someLog(dice), Image: noise(dice.Intn(9)), Commit: someNumber(dice), Ticks: someInt(dice), Timeout: someInt(dice), Piece: noise(dice.Intn(9)), PieceIndex: someNumber(dice), PieceTerm: someNumber(dice)}
		for range dice.Intn(4) {
			s.Votes = append(s.Votes, someInt(dice))
			s.Peers = append(s.Peers, api.Peer{Node: someInt(dice), Next: someNumber(dice), Match: someNumber(dice), Offset: someInt(dice)})
		}
		m := api.Message{Kind: dice.Intn(8), From: dice.Intn(6), To: s.Id, Term: min(s.Term, maxTerm), Index: someNumber(dice), LogTerm: someNumber(dice), Commit: someNumber(dice), Ok: dice.Intn(2) == 0, Entries: wrongEntries(dice), Conf: allMembers()[dice.Intn(31)], Offset: someInt(dice), Size: someInt(dice), Data: noise(dice.Intn(3))}
		e := api.Event{Kind: dice.Intn(5), Message: m, Entry: api.Entry{Kind: dice.Intn(4), Data: text(allMembers()[dice.Intn(31)]...)}, Index: someNumber(dice), Image: noise(dice.Intn(9))}
		was, wasE := deep(s), deepEvent(e)
		raft.Step(s, e)
		raft.Members(s)
		raft.New(someInt(dice), api.Hard{Term: someNumber(dice), Vote: someInt(dice)}, s.Log, s.Image, someInt(dice))
		if !reflect.DeepEqual(deep(s), was) || !reflect.DeepEqual(deepEvent(e), wasE) {
			t.Fatalf("%s on %s was turned", brief(was), brief(wasE))
		}
	}
}

// TestGreatIndices: P17.2, states with the greatest base that there may be are as others.
func TestGreatIndices(t *testing.T) {
	s := made(t, 1, api.Hard{Term: maxTerm - 1}, api.Log{Base: maxBase, BaseTerm: maxTerm - 1, BaseConf: []int{1, 2, 3}}, "image", 1)
	s, _ = ok(t, s, tick)
	s, _ = ok(t, s, grant(2, maxTerm, true))
	if s.Role != api.Leader {
		t.Fatalf("%s", brief(s))
	}
	s, _ = ok(t, s, propose("x"))
	s, _ = ok(t, s, ack(2, maxTerm, maxBase+2))
	s, _ = ok(t, s, change(1, 2, 3, 4))
	s, _ = ok(t, s, compact(maxBase+2, "new"))
	s, _ = ok(t, s, nack(4, maxTerm, 0))
	if s.Commit != maxBase+2 || s.Log.Base != maxBase+2 || len(s.Log.L) != 1 || s.Peers[2] != (api.Peer{Node: 4, Next: 1}) {
		t.Errorf("%s", brief(s))
	}
}

// TestLong: the calls end soon, however much they are handed.
func TestLong(t *testing.T) {
	if testing.Short() {
		t.Skip("it takes seconds")
	}
	started := time.Now()
	const n = 1 << 20
	s := begun(t, []int{1, 2, 3})
	s, out, e := raft.Step(s, hear(api.Message{Kind: api.MsgAppend, From: 2, To: 1, Entries: slices.Repeat([]api.Entry{mail(0, "x")}, n), Commit: maxIndex}))
	if len(s.Log.L) != n || s.Commit != n || len(out) != 1 || e != api.OK {
		t.Errorf("%d entries, %d", len(s.Log.L), e)
	}
	long := strings.Repeat("x", 1<<28)
	for _, m := range []api.Message{
		{Kind: api.MsgPiece, From: 2, To: 1, Index: n + 1, Conf: []int{1}, Size: 1 << 18, Data: long},
		{Kind: api.MsgPiece, From: 2, To: 1, Index: n + 1, Conf: make([]int, n), Size: 1 << 18},
		{Kind: api.MsgVote, From: 2, To: 1, Data: long},
	} {
		if _, _, e := raft.Step(s, hear(m)); e != api.OK {
			t.Error(e)
		}
	}
	if _, _, e := raft.Step(leads(t, []int{1}), propose(long)); e != api.ErrLong {
		t.Error(e)
	}
	if _, _, e := raft.Step(s, compact(5, long)); e != api.ErrArg {
		t.Error(e)
	}
	if took := time.Since(started); took > 20*time.Second {
		t.Errorf("took %s", took)
	}
}
