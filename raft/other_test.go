package raft_test

import (
	"fmt"
	"maps"
	"reflect"
	"slices"
	"strings"
	"testing"

	"posthorn/api"
	"posthorn/raft"
)

const (
	maxIndex = 1<<64 - 1
	maxBase  = 1 << 62
	maxTerm  = 1 << 62
	maxInt   = 1<<63 - 1
	minInt   = -1 << 63
)

// great are numbers at which a lesser kind of number, or one with a sign, would turn round.
var great = []uint64{1<<31 - 1, 1 << 31, 1<<32 - 1, 1 << 32, 1<<32 + 1, maxBase - 1, maxBase, maxBase + 1, 1<<63 - 1, 1 << 63, 1<<63 + 1, maxIndex - 1, maxIndex}

// text is members' text, by another road than layer 15's.
func text(l ...int) string {
	s := fmt.Sprintf("%c", len(l))
	for _, node := range l {
		s += fmt.Sprintf("%c", node)
	}
	return s
}

// allMembers are all members that there are.
func allMembers() [][]int {
	var rows [][]int
	for bits := 1; bits < 32; bits++ {
		var l []int
		for i := range 5 {
			if bits>>i&1 == 1 {
				l = append(l, i+1)
			}
		}
		rows = append(rows, l)
	}
	return rows
}

// said are all members by their texts.
var said = func() map[string][]int {
	m := map[string][]int{}
	for _, l := range allMembers() {
		m[text(l...)] = l
	}
	return m
}()

// areMembers says whether a list is members, by another road than layer 15's.
func areMembers(l []int) bool {
	return slices.ContainsFunc(allMembers(), func(x []int) bool { return slices.Equal(x, l) })
}

// deepLog is a log in memory of its own; empty lists are none there.
func deepLog(g api.Log) api.Log {
	next := api.Log{Base: g.Base, BaseTerm: g.BaseTerm}
	next.BaseConf = append(next.BaseConf, g.BaseConf...)
	next.L = deepEntries(g.L)
	return next
}

func deepEntries(l []api.Entry) []api.Entry {
	var next []api.Entry
	for _, x := range l {
		next = append(next, api.Entry{Term: x.Term, Kind: x.Kind, Data: strings.Clone(x.Data)})
	}
	return next
}

// deep is a state in memory of its own; empty lists are none there.
func deep(s api.Raft) api.Raft {
	s.Log = deepLog(s.Log)
	s.Image, s.Piece = strings.Clone(s.Image), strings.Clone(s.Piece)
	s.Votes = append([]int(nil), s.Votes...)
	s.Peers = append([]api.Peer(nil), s.Peers...)
	return s
}

func deepMessage(m api.Message) api.Message {
	m.Entries = deepEntries(m.Entries)
	m.Conf = append([]int(nil), m.Conf...)
	m.Data = strings.Clone(m.Data)
	return m
}

func deepMessages(l []api.Message) []api.Message {
	var next []api.Message
	for _, m := range l {
		next = append(next, deepMessage(m))
	}
	return next
}

func deepEvent(e api.Event) api.Event {
	e.Message = deepMessage(e.Message)
	e.Entry.Data = strings.Clone(e.Entry.Data)
	e.Image = strings.Clone(e.Image)
	return e
}

// brief is the beginning of what a thing looks like.
func brief(x any) string {
	s := fmt.Sprintf("%+v", x)
	return s[:min(len(s), 600)]
}

// other is a mind by another road: what stands at each index, which node is which, and each thing done where the chapter says it.
type other struct {
	s     api.Raft
	at    map[uint64]api.Entry
	last  uint64
	votes map[int]int
	peers map[int]api.Peer
	out   []api.Message
}

func otherOf(s api.Raft) *other {
	o := &other{s: deep(s), votes: map[int]int{}, peers: map[int]api.Peer{}}
	o.layOut(o.s.Log.L)
	for _, v := range s.Votes {
		o.votes[v] = 1
	}
	for _, p := range s.Peers {
		o.peers[p.Node] = p
	}
	return o
}

// layOut makes the log's entries those, behind its base.
func (o *other) layOut(l []api.Entry) {
	o.at, o.last = map[uint64]api.Entry{}, o.s.Log.Base
	for _, x := range l {
		o.last++
		o.at[o.last] = x
	}
}

// state is all of it as a state.
func (o *other) state() api.Raft {
	s := o.s
	s.Log.L, s.Votes, s.Peers = o.from(s.Log.Base+1), slices.Sorted(maps.Keys(o.votes)), nil
	for _, node := range slices.Sorted(maps.Keys(o.peers)) {
		s.Peers = append(s.Peers, o.peers[node])
	}
	return deep(s)
}

// from are all entries from an index on.
func (o *other) from(i uint64) []api.Entry {
	var l []api.Entry
	for ; i <= o.last; i++ {
		l = append(l, o.at[i])
	}
	return l
}

func (o *other) term(i uint64) (uint64, bool) {
	if i == o.s.Log.Base {
		return o.s.Log.BaseTerm, true
	}
	x, ok := o.at[i]
	return x.Term, ok
}

// conf are the members at an index, and where that is said: from the beginning on each one that says so makes them others.
func (o *other) conf(to uint64) ([]int, uint64) {
	l, where := o.s.Log.BaseConf, o.s.Log.Base
	for i := where + 1; i <= min(o.last, to); i++ {
		if x := o.at[i]; x.Kind == api.EntConf && said[x.Data] != nil {
			l, where = said[x.Data], i
		}
	}
	return slices.Clone(l), where
}

func (o *other) members() []int {
	l, _ := o.conf(o.last)
	return l
}

func (o *other) isMember(node int) bool { return slices.Contains(o.members(), node) }

func (o *other) most(has func(node int) bool) bool {
	in, l := 0, o.members()
	for _, node := range l {
		if has(node) {
			in++
		}
	}
	return 2*in > len(l)
}

func (o *other) tell(kind, to int, m api.Message) {
	m.Kind, m.From, m.To, m.Term = kind, o.s.Id, to, o.s.Term
	o.out = append(o.out, deepMessage(m))
}

func (o *other) follow(t uint64, n int) {
	if o.s.Term < t {
		o.s.Term = t
		o.s.Vote = 0
	}
	o.s.Role = 0
	o.s.Leader = n
	clear(o.votes)
	clear(o.peers)
}

func (o *other) update(node int) {
	p, g := o.peers[node], o.s.Log
	if g.Base >= p.Next {
		data := o.s.Image[p.Offset:]
		if len(data) > 4096 {
			data = data[:4096]
		}
		o.tell(5, node, api.Message{Index: g.Base, LogTerm: g.BaseTerm, Conf: g.BaseConf, Offset: p.Offset, Size: len(o.s.Image), Data: data})
		return
	}
	term, _ := o.term(p.Next - 1)
	l := o.from(p.Next)
	if len(l) > 8 {
		l = l[:8]
	}
	o.tell(3, node, api.Message{Index: p.Next - 1, LogTerm: term, Entries: l, Commit: o.s.Commit})
}

func (o *other) updateAll() {
	for node := 1; node <= 5; node++ {
		if _, ok := o.peers[node]; ok {
			o.update(node)
		}
	}
}

func (o *other) commit() {
	for c := o.last; c > o.s.Commit; c-- {
		has := func(node int) bool { return node == o.s.Id || o.peers[node].Match >= c }
		if o.most(has) {
			if o.at[c].Term == o.s.Term {
				o.s.Commit = c
			}
			break
		}
	}
	if _, where := o.conf(o.last); !o.isMember(o.s.Id) && where <= o.s.Commit {
		o.follow(o.s.Term, 0)
	}
}

func (o *other) append(kind int, data string) {
	o.last++
	o.at[o.last] = api.Entry{Term: o.s.Term, Kind: kind, Data: data}
}

func (o *other) commitAndUpdate() {
	o.commit()
	if o.s.Role == 2 {
		o.updateAll()
	}
}

func (o *other) leadIfMost() bool {
	if !o.most(func(node int) bool { return o.votes[node] == 1 }) {
		return false
	}
	o.s.Role, o.s.Leader = 2, o.s.Id
	clear(o.votes)
	clear(o.peers)
	for _, node := range o.members() {
		if node != o.s.Id {
			o.peers[node] = api.Peer{Node: node, Next: o.last + 1}
		}
	}
	o.append(1, "")
	o.commitAndUpdate()
	return true
}

func (o *other) tick() {
	if o.s.Role == 2 {
		o.updateAll()
		return
	}
	o.s.Ticks++
	_, where := o.conf(o.last)
	ahead, _ := o.conf(where - 1)
	stands := o.isMember(o.s.Id) || where > o.s.Commit && slices.Contains(ahead, o.s.Id)
	if o.s.Ticks < o.s.Timeout || !stands || o.s.Term >= 1<<62 {
		return
	}
	o.s.Term++
	o.s.Vote, o.s.Role, o.s.Leader, o.s.Ticks = o.s.Id, 1, 0, 0
	clear(o.peers)
	o.votes = map[int]int{o.s.Id: 1}
	if o.leadIfMost() {
		return
	}
	term, _ := o.term(o.last)
	for _, node := range o.members() {
		if node != o.s.Id {
			o.tell(1, node, api.Message{Index: o.last, LogTerm: term})
		}
	}
}

// oneStep says whether b is a with one more or one less, by how many are in just one of them.
func oneStep(a, b []int) bool {
	apart := 0
	for node := 1; node <= 5; node++ {
		if slices.Contains(a, node) != slices.Contains(b, node) {
			apart++
		}
	}
	return apart == 1 && len(a) > 0 && len(b) > 0
}

func (o *other) propose(x api.Entry) api.Errno {
	committed, _ := o.term(o.s.Commit)
	_, where := o.conf(o.last)
	switch {
	case o.s.Role != 2:
		return api.ErrLead
	case x.Kind != 2 && x.Kind != 3:
		return api.ErrArg
	case len(x.Data) > 2048:
		return api.ErrLong
	case len(o.at) >= 1024:
		return api.ErrFull
	case x.Kind == 2 && !oneStep(o.members(), said[x.Data]):
		return api.ErrArg
	case x.Kind == 2 && (where > o.s.Commit || committed != o.s.Term):
		return api.ErrBusy
	}
	o.append(x.Kind, x.Data)
	if x.Kind == 2 {
		was := maps.Clone(o.peers)
		clear(o.peers)
		for _, node := range said[x.Data] {
			p, ok := was[node]
			if !ok {
				p = api.Peer{Node: node, Next: o.last + 1}
			}
			if node != o.s.Id {
				o.peers[node] = p
			}
		}
	}
	o.commitAndUpdate()
	return api.OK
}

func (o *other) compact(i uint64, image string) api.Errno {
	if i <= o.s.Log.Base || i > o.s.Commit || len(image) > 1<<18 {
		return api.ErrArg
	}
	conf, _ := o.conf(i)
	term, _ := o.term(i)
	l := o.from(i + 1)
	o.s.Log = api.Log{Base: i, BaseTerm: term, BaseConf: conf}
	o.layOut(l)
	o.s.Image = image
	for node, p := range o.peers {
		o.peers[node] = api.Peer{Node: p.Node, Next: p.Next, Match: p.Match}
	}
	return api.OK
}

func (o *other) hear(m api.Message) api.Errno {
	if m.To != o.s.Id || m.From == o.s.Id || m.From < 1 || m.From > 5 || m.Term > 1<<62 {
		return api.ErrArg
	}
	if m.Term > o.s.Term {
		if m.Kind == 1 && (o.s.Role == 2 || o.s.Leader != 0 && o.s.Ticks < 3) {
			return api.OK
		}
		o.follow(m.Term, 0)
	}
	switch m.Kind {
	case 1:
		o.hearVote(m)
	case 2:
		if o.s.Role == 1 && m.Term == o.s.Term && m.Ok {
			o.votes[m.From] = 1
			o.leadIfMost()
		}
	case 3, 5:
		if m.Term < o.s.Term {
			o.tell(4, m.From, api.Message{})
		} else if o.s.Role != 2 {
			o.follow(o.s.Term, m.From)
			o.s.Ticks = 0
			if m.Kind == 3 {
				o.hearAppend(m)
			} else {
				o.hearPiece(m)
			}
		}
	case 4:
		o.hearAck(m)
	case 6:
		p, ok := o.peers[m.From]
		if o.s.Role == 2 && m.Term == o.s.Term && ok && p.Next <= o.s.Log.Base && m.Index == o.s.Log.Base && 0 <= m.Offset && m.Offset <= len(o.s.Image) {
			p.Offset = m.Offset
			o.peers[m.From] = p
			o.update(m.From)
		}
	}
	return api.OK
}

func (o *other) hearVote(m api.Message) {
	end, _ := o.term(o.last)
	newer := m.LogTerm > end || m.LogTerm == end && m.Index >= o.last
	ok := m.Term == o.s.Term && o.s.Role == 0 && (o.s.Vote == 0 || o.s.Vote == m.From) && newer
	if ok {
		o.s.Vote = m.From
		o.s.Ticks = 0
	}
	o.tell(2, m.From, api.Message{Ok: ok})
}

func (o *other) hearAppend(m api.Message) {
	there, ok := o.term(m.Index)
	if m.Index >= o.s.Log.Base && (!ok || there != m.LogTerm) {
		i := o.last
		if m.Index == 0 {
			i = 0
		} else if m.Index-1 < i {
			i = m.Index - 1
		}
		o.tell(4, m.From, api.Message{Index: i})
		return
	}
	end := m.Index + uint64(len(m.Entries))
	for i := max(m.Index, o.s.Log.Base) + 1; i <= end; i++ {
		mine, ok := o.at[i]
		if ok && mine.Term == m.Entries[i-m.Index-1].Term {
			continue
		}
		if i <= o.s.Commit {
			return
		}
		l := append(o.from(o.s.Log.Base + 1)[:i-o.s.Log.Base-1], m.Entries[i-m.Index-1:]...)
		o.layOut(deepEntries(l))
		break
	}
	for c := o.s.Commit + 1; c <= m.Commit && c <= end && c <= o.last; c++ {
		o.s.Commit = c
	}
	o.tell(4, m.From, api.Message{Ok: true, Index: end})
}

func (o *other) hearPiece(m api.Message) {
	if m.Size < 0 || m.Size > 1<<18 || m.Offset < 0 || m.Offset > m.Size || len(m.Data) > 4096 || len(m.Data) > m.Size-m.Offset || !areMembers(m.Conf) {
		return
	}
	if m.Index <= o.s.Commit {
		o.tell(4, m.From, api.Message{Ok: true, Index: m.Index})
		return
	}
	bytes := ""
	if o.s.PieceIndex == m.Index && o.s.PieceTerm == m.LogTerm {
		bytes = o.s.Piece
	}
	if len(bytes) != m.Offset {
		o.tell(6, m.From, api.Message{Index: m.Index, Offset: len(bytes)})
		return
	}
	bytes += m.Data
	if len(bytes) < m.Size {
		o.s.Piece, o.s.PieceIndex, o.s.PieceTerm = bytes, m.Index, m.LogTerm
		o.tell(6, m.From, api.Message{Index: m.Index, Offset: len(bytes)})
		return
	}
	var l []api.Entry
	if there, ok := o.term(m.Index); ok && there == m.LogTerm {
		l = o.from(m.Index + 1)
	}
	o.s.Log = api.Log{Base: m.Index, BaseTerm: m.LogTerm, BaseConf: slices.Clone(m.Conf)}
	o.layOut(l)
	o.s.Image, o.s.Commit = bytes, m.Index
	o.s.Piece, o.s.PieceIndex, o.s.PieceTerm = "", 0, 0
	o.tell(4, m.From, api.Message{Ok: true, Index: m.Index})
}

func (o *other) hearAck(m api.Message) {
	p, ok := o.peers[m.From]
	if o.s.Role != 2 || m.Term != o.s.Term || !ok {
		return
	}
	if !m.Ok {
		if m.Index < maxIndex && m.Index+1 < p.Next {
			p.Next = m.Index + 1
		}
		if p.Next < p.Match+1 {
			p.Next = p.Match + 1
		}
		o.peers[m.From] = p
		o.update(m.From)
		return
	}
	if m.Index <= p.Match || m.Index > o.last {
		return
	}
	p.Match, p.Offset = m.Index, 0
	if p.Next < m.Index+1 {
		p.Next = m.Index + 1
	}
	o.peers[m.From] = p
	o.commit()
	if o.s.Role == 2 && p.Next <= o.last {
		o.update(m.From)
	}
}

// otherStep is Step by the other road.
func otherStep(s api.Raft, e api.Event) (api.Raft, []api.Message, api.Errno) {
	o := otherOf(s)
	errno := api.OK
	switch e.Kind {
	case 1:
		o.tick()
	case 2:
		errno = o.hear(e.Message)
	case 3:
		errno = o.propose(e.Entry)
	case 4:
		errno = o.compact(e.Index, e.Image)
	default:
		errno = api.ErrArg
	}
	if errno != api.OK {
		return deep(s), nil, errno
	}
	return o.state(), o.out, errno
}

// steps does a step, checks it by the other road, and that what was handed in stays.
func steps(t *testing.T, s api.Raft, e api.Event) (api.Raft, []api.Message, api.Errno) {
	t.Helper()
	wasS, wasE := deep(s), deepEvent(e)
	next, out, errno := raft.Step(s, e)
	if !reflect.DeepEqual(deep(s), wasS) || !reflect.DeepEqual(deepEvent(e), wasE) {
		t.Fatalf("Step turned what it was handed: %s, %s", brief(wasS), brief(wasE))
	}
	want, wantOut, wantErrno := otherStep(s, e)
	if !reflect.DeepEqual(deep(next), want) {
		t.Fatalf("Step of\n%s, on\n%s, makes\n%s, must make\n%s", brief(s), brief(e), brief(next), brief(want))
	}
	if !reflect.DeepEqual(deepMessages(out), wantOut) {
		t.Fatalf("Step of\n%s, on\n%s, says\n%s, must say\n%s", brief(s), brief(e), brief(out), brief(wantOut))
	}
	if errno != wantErrno {
		t.Fatalf("Step of\n%s, on\n%s: %d, must be %d", brief(s), brief(e), errno, wantErrno)
	}
	return next, out, errno
}

// ok does a step that must be OK.
func ok(t *testing.T, s api.Raft, e api.Event) (api.Raft, []api.Message) {
	t.Helper()
	next, out, errno := steps(t, s, e)
	if errno != api.OK {
		t.Fatalf("Step of %s on %s: %d", brief(s), brief(e), errno)
	}
	return next, out
}

// refuses does a step that must answer an error, and leave the state.
func refuses(t *testing.T, s api.Raft, e api.Event, want api.Errno) {
	t.Helper()
	next, out, errno := steps(t, s, e)
	if errno != want || len(out) != 0 || !reflect.DeepEqual(deep(next), deep(s)) {
		t.Errorf("Step of %s on %s: %s, %s, %d; must be %d", brief(s), brief(e), brief(next), brief(out), errno, want)
	}
}

// is checks what a state is.
func is(t *testing.T, got, want api.Raft) {
	t.Helper()
	if !reflect.DeepEqual(deep(got), deep(want)) {
		t.Errorf("is %s, must be %s", brief(got), brief(want))
	}
}

// says checks what is said.
func says(t *testing.T, got []api.Message, want ...api.Message) {
	t.Helper()
	if !reflect.DeepEqual(deepMessages(got), deepMessages(want)) {
		t.Errorf("says %s, must say %s", brief(got), brief(want))
	}
}

// The events, briefly.
var tick = api.Event{Kind: api.EvTick}

func hear(m api.Message) api.Event { return api.Event{Kind: api.EvHear, Message: m} }

func propose(data string) api.Event {
	return api.Event{Kind: api.EvPropose, Entry: api.Entry{Kind: api.EntMail, Data: data}}
}

func change(l ...int) api.Event {
	return api.Event{Kind: api.EvPropose, Entry: api.Entry{Kind: api.EntConf, Data: text(l...)}}
}

func compact(i uint64, image string) api.Event {
	return api.Event{Kind: api.EvCompact, Index: i, Image: image}
}

// The entries, briefly.
func none(term uint64) api.Entry { return api.Entry{Term: term, Kind: api.EntNone} }

func mail(term uint64, data string) api.Entry {
	return api.Entry{Term: term, Kind: api.EntMail, Data: data}
}

func conf(term uint64, l ...int) api.Entry {
	return api.Entry{Term: term, Kind: api.EntConf, Data: text(l...)}
}

// made is what New makes, where that must be OK.
func made(t *testing.T, id int, h api.Hard, g api.Log, image string, timeout int) api.Raft {
	t.Helper()
	s, e := raft.New(id, h, g, image, timeout)
	if e != api.OK {
		t.Fatalf("New(%d, %v, %s, .., %d): %d", id, h, brief(g), timeout, e)
	}
	return s
}

// begun is node 1 of some members, with a log of some entries.
func begun(t *testing.T, members []int, l ...api.Entry) api.Raft {
	t.Helper()
	h := api.Hard{}
	for _, x := range l {
		h.Term = max(h.Term, x.Term)
	}
	return made(t, 1, h, api.Log{BaseConf: members, L: l}, "", 1)
}

// leads is node 1 of some members that leads, by the votes of all others; its messages are lost.
func leads(t *testing.T, members []int, l ...api.Entry) api.Raft {
	t.Helper()
	s, _ := ok(t, begun(t, members, l...), tick)
	for _, node := range raft.Members(s) {
		if s.Role == api.Candidate && node != 1 {
			s, _ = ok(t, s, hear(api.Message{Kind: api.MsgGrant, From: node, To: 1, Term: s.Term, Ok: true}))
		}
	}
	if s.Role != api.Leader {
		t.Fatalf("%s does not lead", brief(s))
	}
	return s
}
