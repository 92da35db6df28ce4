package raft_test

import (
	"testing"

	"posthorn/api"
)

// TestHeeds: P17.2, MsgAppend and MsgPiece of each term, in each role.
func TestHeeds(t *testing.T) {
	for _, s := range someStates(t) {
		s.Ticks = 5
		for _, kind := range []int{api.MsgAppend, api.MsgPiece} {
			for term := uint64(0); term < 7; term++ {
				m := api.Message{Kind: kind, From: 2, To: 1, Term: term, Index: 1, LogTerm: 3, Size: -1}
				next, out := ok(t, s, hear(m))
				if term < s.Term {
					is(t, next, s)
					says(t, out, api.Message{Kind: api.MsgAck, From: 1, To: 2, Term: s.Term})
					continue
				}
				if term == s.Term && s.Role == api.Leader {
					is(t, next, s)
					says(t, out)
					continue
				}
				want := deep(s)
				if term > s.Term {
					want.Term, want.Vote = term, 0
				}
				want.Role, want.Leader, want.Ticks, want.Votes, want.Peers = api.Follower, 2, 0, nil, nil
				is(t, next, want)
				if kind == api.MsgAppend {
					says(t, out, api.Message{Kind: api.MsgAck, From: 1, To: 2, Term: term, Ok: true, Index: 1})
				} else {
					says(t, out) // a piece that may not be
				}
			}
		}
	}
}

// follows is node 1 with a log whose base is 5, and of whose entries two are committed.
func follows(t *testing.T) api.Raft {
	t.Helper()
	g := api.Log{Base: 5, BaseTerm: 2, BaseConf: []int{1, 2, 3}, L: []api.Entry{mail(2, "6"), mail(3, "7"), mail(3, "8"), mail(5, "9")}}
	s := made(t, 1, api.Hard{Term: 6, Vote: 3}, g, "image", 50)
	s.Commit = 7
	return s
}

// TestAppend: P17.2, MsgAppend: what fits, what doesn't, and what turns something that is committed.
func TestAppend(t *testing.T) {
	const no = 99
	e := func(terms ...uint64) []api.Entry {
		var l []api.Entry
		for _, term := range terms {
			l = append(l, mail(term, "new"))
		}
		return l
	}
	all := follows(t).Log.L
	for i, x := range []struct {
		index, term uint64
		l           []api.Entry
		commit      uint64
		said        int // 1: Ok, 0: not, 2: nothing
		at          uint64
		want        []api.Entry
		then        uint64
	}{
		{9, 5, nil, 0, 1, 9, all, 7},
		{9, 5, e(6), 0, 1, 10, append(deepEntries(all), e(6)...), 7},
		{9, 5, e(6, 6), 10, 1, 11, append(deepEntries(all), e(6, 6)...), 10},
		{9, 5, e(6, 6), 11, 1, 11, append(deepEntries(all), e(6, 6)...), 11},
		{9, 5, e(6, 6), maxIndex, 1, 11, append(deepEntries(all), e(6, 6)...), 11},
		{9, 5, nil, 8, 1, 9, all, 8},
		{9, 5, nil, 9, 1, 9, all, 9},
		{9, 5, nil, 10, 1, 9, all, 9},
		{8, 3, nil, 9, 1, 8, all, 8}, // no more is known to be the same
		{7, 3, nil, 9, 1, 7, all, 7},
		{6, 2, nil, 9, 1, 6, all, 7},
		{8, 3, e(6), 9, 1, 9, append(deepEntries(all[:3]), e(6)...), 9},
		{8, 3, e(6), 8, 1, 9, append(deepEntries(all[:3]), e(6)...), 8},
		{7, 3, e(4), 8, 1, 8, append(deepEntries(all[:2]), e(4)...), 8},
		{7, 3, e(4), 0, 1, 8, append(deepEntries(all[:2]), e(4)...), 7},
		{7, 3, e(3), 9, 1, 8, all, 8}, // entries that are there stay as they are
		{7, 3, e(3, 5), 0, 1, 9, all, 7},
		{7, 3, e(3, 5, 6), 9, 1, 10, append(deepEntries(all), e(6)...), 9},
		{6, 2, e(3, 6), 9, 1, 8, append(deepEntries(all[:2]), e(6)...), 8},
		{6, 2, e(4), 9, 2, 0, all, 7}, // 7 is committed
		{6, 2, e(2), 9, 2, 0, all, 7},
		{5, 2, e(3), 9, 2, 0, all, 7},
		{5, 2, e(2, 4), 9, 2, 0, all, 7},
		{5, 2, e(2, 3, 4), 9, 1, 8, append(deepEntries(all[:2]), e(4)...), 8},
		{0, 0, e(9, 9, 9, 9, 9, 9), 9, 2, 0, all, 7},
		{0, 9, e(9, 9, 9, 9, 9), 9, 1, 5, all, 7}, // all of that lies in the base
		{0, 9, e(9, 9), 9, 1, 2, all, 7},
		{0, 9, nil, 9, 1, 0, all, 7},
		{4, 9, nil, 9, 1, 4, all, 7},
		{4, 9, e(9, 2, 3, 3, 5, 6), 10, 1, 10, append(deepEntries(all), e(6)...), 10},
		{4, 9, e(9, 3), 10, 2, 0, all, 7},
		{5, 3, nil, 9, 0, 4, all, 7},
		{5, 1, e(2), 9, 0, 4, all, 7},
		{6, 3, nil, 9, 0, 5, all, 7},
		{8, 5, e(6), 9, 0, 7, all, 7},
		{9, 3, e(6), 9, 0, 8, all, 7},
		{9, 6, e(6), 9, 0, 8, all, 7},
		{10, 5, nil, 9, 0, 9, all, 7},
		{10, 0, e(6), 9, 0, 9, all, 7},
		{11, 5, nil, 9, 0, 9, all, 7},
		{maxIndex, 5, e(6, 6), 9, 0, 9, all, 7},
		{maxIndex - 1, 5, e(6, 6), 9, 0, 9, all, 7},
		{1 << 63, 5, e(6, 6), 9, 0, 9, all, 7},
		{1<<32 + 9, 5, e(6, 6), 9, 0, 9, all, 7},
		{9, 5, e(6, 6, 6, 6, 6, 6, 6, 6, 6, 6), 9, 1, 19, append(deepEntries(all), e(6, 6, 6, 6, 6, 6, 6, 6, 6, 6)...), 9}, // more than MaxBatch
	} {
		s := follows(t)
		s.Ticks = no
		next, out := ok(t, s, hear(api.Message{Kind: api.MsgAppend, From: 3, To: 1, Term: 6, Index: x.index, LogTerm: x.term, Entries: x.l, Commit: x.commit}))
		s.Leader, s.Ticks, s.Log.L, s.Commit = 3, 0, x.want, x.then
		is(t, next, s)
		if x.said == 2 {
			says(t, out)
		} else {
			says(t, out, api.Message{Kind: api.MsgAck, From: 1, To: 3, Term: 6, Ok: x.said == 1, Index: x.at})
		}
		if t.Failed() {
			t.Fatalf("row %d", i)
		}
	}
}

// TestAppendToNone: P17.2, MsgAppend to a log that has nothing.
func TestAppendToNone(t *testing.T) {
	s := made(t, 1, api.Hard{}, api.Log{}, "", 50)
	for index := uint64(0); index < 3; index++ {
		for term := uint64(0); term < 2; term++ {
			next, out := ok(t, s, hear(api.Message{Kind: api.MsgAppend, From: 3, To: 1, Term: 4, Index: index, LogTerm: term, Entries: []api.Entry{conf(4, 1, 3), none(4)}, Commit: 1}))
			want := api.Raft{Id: 1, Term: 4, Leader: 3, Timeout: 50}
			if index == 0 && term == 0 {
				want.Log.L, want.Commit = []api.Entry{conf(4, 1, 3), none(4)}, 1
				says(t, out, api.Message{Kind: api.MsgAck, From: 1, To: 3, Term: 4, Ok: true, Index: 2})
			} else {
				says(t, out, api.Message{Kind: api.MsgAck, From: 1, To: 3, Term: 4})
			}
			is(t, next, want)
		}
	}
}

// TestAppendBehindLeader: P17.2, MsgAppend to a candidate of the same term, and to a leader of one below.
func TestAppendBehindLeader(t *testing.T) {
	s, _ := ok(t, begun(t, []int{1, 2, 3}), tick)
	s, _ = ok(t, s, hear(api.Message{Kind: api.MsgAppend, From: 2, To: 1, Term: 1, Entries: []api.Entry{none(1)}, Commit: 1}))
	is(t, s, api.Raft{Id: 1, Term: 1, Vote: 1, Leader: 2, Log: api.Log{BaseConf: []int{1, 2, 3}, L: []api.Entry{none(1)}}, Commit: 1, Timeout: 1})
	s = leads(t, []int{1, 2, 3})
	s, _ = ok(t, s, hear(api.Message{Kind: api.MsgAppend, From: 2, To: 1, Term: 2, Entries: []api.Entry{none(2)}, Commit: 1}))
	is(t, s, api.Raft{Id: 1, Term: 2, Leader: 2, Log: api.Log{BaseConf: []int{1, 2, 3}, L: []api.Entry{none(2)}}, Commit: 1, Timeout: 1})
}

// piece is a MsgPiece to node 1 of an image that stands for the log up to 8, of the term 3.
func piece(offset, size int, data string) api.Message {
	return api.Message{Kind: api.MsgPiece, From: 3, To: 1, Term: 6, Index: 8, LogTerm: 3, Conf: []int{1, 3}, Offset: offset, Size: size, Data: data}
}

// got is what is answered to it.
func got(offset int) api.Message {
	return api.Message{Kind: api.MsgGot, From: 1, To: 3, Term: 6, Index: 8, Offset: offset}
}

// TestPieces: P17.2, MsgPiece, one behind the other, until all are there.
func TestPieces(t *testing.T) {
	s := follows(t)
	image := noise(10000)
	for offset := 0; offset < 8192; offset += 4096 {
		s.Ticks = 9
		next, out := ok(t, s, hear(piece(offset, 10000, image[offset:offset+4096])))
		s.Leader, s.Ticks = 3, 0
		s.Piece, s.PieceIndex, s.PieceTerm = image[:offset+4096], 8, 3
		is(t, next, s)
		says(t, out, got(offset+4096))
		s = next
		for _, again := range []int{0, 1, offset, offset + 4095, offset + 4097, 9000, 10000} { // what isn't what comes next: nothing is turned
			next, out := ok(t, s, hear(piece(again, 10000, image[again:min(again+4096, 10000)])))
			is(t, next, s)
			says(t, out, got(offset+4096))
		}
	}
	s, out := ok(t, s, hear(piece(8192, 10000, image[8192:])))
	want := follows(t)
	want.Leader, want.Image, want.Commit = 3, image, 8
	want.Log = api.Log{Base: 8, BaseTerm: 3, BaseConf: []int{1, 3}, L: []api.Entry{mail(5, "9")}} // the term there is that one: what stands behind stays
	is(t, s, want)
	says(t, out, api.Message{Kind: api.MsgAck, From: 1, To: 3, Term: 6, Ok: true, Index: 8})
	next, out := ok(t, s, hear(piece(8192, 10000, image[8192:]))) // once more
	is(t, next, s)
	says(t, out, api.Message{Kind: api.MsgAck, From: 1, To: 3, Term: 6, Ok: true, Index: 8})
}

// TestPieceOfCommitted: P17.2, MsgPiece up to Commit: it is there.
func TestPieceOfCommitted(t *testing.T) {
	for i := range uint64(12) {
		s := follows(t)
		m := piece(0, 3, "abc")
		m.Index, m.LogTerm = i, 4
		next, out := ok(t, s, hear(m))
		s.Leader = 3
		if i > 7 {
			s.Log = api.Log{Base: i, BaseTerm: 4, BaseConf: []int{1, 3}} // of no index is the term 4
			s.Image, s.Commit = "abc", i
		}
		is(t, next, s)
		says(t, out, api.Message{Kind: api.MsgAck, From: 1, To: 3, Term: 6, Ok: true, Index: i})
		m.Offset, m.Data = 1, "bc"
		next, out = ok(t, follows(t), hear(m))
		if i > 7 {
			s = follows(t)
			s.Leader = 3
			says(t, out, api.Message{Kind: api.MsgGot, From: 1, To: 3, Term: 6, Index: i})
		} else {
			says(t, out, api.Message{Kind: api.MsgAck, From: 1, To: 3, Term: 6, Ok: true, Index: i})
		}
		is(t, next, s)
	}
}

// TestPieceOfOther: P17.2, MsgPiece of another index, or term: of that image none are there.
func TestPieceOfOther(t *testing.T) {
	s, _ := ok(t, follows(t), hear(piece(0, 10, "abcd")))
	for _, x := range []struct {
		index, term uint64
		same        bool
	}{{8, 3, true}, {8, 4, false}, {8, 2, false}, {9, 3, false}, {1<<32 + 8, 3, false}, {8, 1<<32 + 3, false}} {
		m := piece(4, 10, "efg")
		m.Index, m.LogTerm = x.index, x.term
		next, out := ok(t, s, hear(m))
		want := deep(s)
		offset := 0
		if x.same {
			want.Piece, offset = "abcdefg", 7
		}
		is(t, next, want)
		says(t, out, api.Message{Kind: api.MsgGot, From: 1, To: 3, Term: 6, Index: x.index, Offset: offset})
		m = piece(0, 10, "xyz")
		m.Index, m.LogTerm = x.index, x.term
		next, out = ok(t, s, hear(m))
		if x.same {
			want, offset = s, 4
		} else {
			want.Piece, want.PieceIndex, want.PieceTerm, offset = "xyz", x.index, x.term, 3
		}
		is(t, next, want)
		says(t, out, api.Message{Kind: api.MsgGot, From: 1, To: 3, Term: 6, Index: x.index, Offset: offset})
	}
}

// TestPieceUnfit: P17.2, MsgPiece with what may not be: nothing, but that the node follows.
func TestPieceUnfit(t *testing.T) {
	began, _ := ok(t, follows(t), hear(piece(0, 9000, noise(4))))
	long := func(n int) string { return noise(n) }
	for _, x := range []struct {
		offset, size int
		data         string
		want         bool
	}{
		{4, 9000, long(4096), true},
		{4, 9000, long(4097), false},
		{4, 9000, long(9000), false},
		{4, 9000, "", true},
		{4, 9, long(5), true},
		{4, 9, long(4), true},
		{4, 9, long(6), false},
		{4, 4, "", true},
		{4, 4, "x", false},
		{4, 3, "", false},
		{5, 4, "", false},
		{0, -1, "", false},
		{-1, 9, "", false},
		{-1, -1, "", false},
		{-4, 9, "x", false},
		{minInt, 9, "x", false},
		{maxInt, 9, "x", false},
		{4, 1 << 18, "x", true},
		{4, 1<<18 + 1, "x", false},
		{4, maxInt, "x", false},
		{4, minInt, "x", false},
		{maxInt, maxInt, "x", false},
		{minInt, maxInt, "x", false},
		{maxInt, minInt, "x", false},
		{minInt, minInt, "x", false},
		{4, 1<<32 + 9, "x", false},
		{0, 9, "x", true},
		{9, 9, "", true},
		{9, 9, "x", false},
	} {
		s := deep(began)
		s.Ticks, s.Leader = 9, 2
		next, out := ok(t, s, hear(piece(x.offset, x.size, x.data)))
		if (len(out) == 1) != x.want {
			t.Errorf("Offset %d, Size %d, %d bytes: %s", x.offset, x.size, len(x.data), brief(out))
		}
		if !x.want {
			s.Ticks, s.Leader = 0, 3
			is(t, next, s)
		}
	}
	for _, l := range [][]int{nil, {}, {0}, {6}, {1, 1}, {2, 1}, {1, 2, 3, 4, 5, 6}, {1<<32 + 1}, {-1}} {
		for _, index := range []uint64{1, 8} { // even if it is there already
			m := piece(4, 9, "x")
			m.Conf, m.Index = l, index
			next, out := ok(t, began, hear(m))
			is(t, next, began)
			says(t, out)
		}
	}
	for _, l := range allMembers() {
		m := piece(4, 5, "x")
		m.Conf = l
		next, _ := ok(t, began, hear(m))
		members(t, next, l)
	}
}

// TestPieceOfNone: P17.2, MsgPiece of the empty image: all is there at once, whatever was there of another one.
func TestPieceOfNone(t *testing.T) {
	for _, begin := range []string{"", "abc"} {
		s := follows(t)
		m := piece(0, 4, begin)
		m.Index = 9
		s, _ = ok(t, s, hear(m))
		next, out := ok(t, s, hear(piece(0, 0, "")))
		want := follows(t)
		want.Leader, want.Image, want.Commit = 3, "", 8
		want.Log = api.Log{Base: 8, BaseTerm: 3, BaseConf: []int{1, 3}, L: []api.Entry{mail(5, "9")}}
		is(t, next, want)
		says(t, out, api.Message{Kind: api.MsgAck, From: 1, To: 3, Term: 6, Ok: true, Index: 8})
	}
}

// TestPieceOfGreatest: P17.2, MsgPiece, an image as great as there may be, in as many pieces.
func TestPieceOfGreatest(t *testing.T) {
	for _, n := range []int{1 << 18, 1<<18 - 1, 1<<18 - 4095} {
		s := follows(t)
		image := noise(n)
		for offset := 0; offset < n; offset += 4096 {
			s, _ = ok(t, s, hear(piece(offset, n, image[offset:min(offset+4096, n)])))
		}
		if s.Image != image || s.Piece != "" || s.Log.Base != 8 {
			t.Errorf("%d bytes: %s", n, brief(s))
		}
	}
}

// TestPieceOfBeyond: P17.2, MsgPiece past the log's end, and of another term there: no entries stay.
func TestPieceOfBeyond(t *testing.T) {
	for _, x := range []struct {
		index, term uint64
		l           []api.Entry
	}{{8, 3, []api.Entry{mail(5, "9")}}, {8, 4, nil}, {9, 5, nil}, {9, 6, nil}, {10, 5, nil}, {20, 6, nil}, {maxBase, 6, nil}} {
		m := piece(0, 1, "x")
		m.Index, m.LogTerm = x.index, x.term
		next, _ := ok(t, follows(t), hear(m))
		want := follows(t)
		want.Leader, want.Image, want.Commit = 3, "x", x.index
		want.Log = api.Log{Base: x.index, BaseTerm: x.term, BaseConf: []int{1, 3}, L: x.l}
		is(t, next, want)
	}
}
