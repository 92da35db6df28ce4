package raft

import (
	"slices"
	"strings"

	"posthorn/api"
	"posthorn/quorum"
	"posthorn/tail"
)

// mind is a node's state while an event happens to it, and what it says then. It shares no memory with a state that was handed in.
type mind struct {
	api.Raft
	said []api.Message
}

// isNode says whether a number is a node's.
func isNode(id int) bool { return id >= 1 && id <= api.MaxNodes }

// copyState is the same state in new memory.
func copyState(s api.Raft) api.Raft {
	s.Log.BaseConf = slices.Clone(s.Log.BaseConf)
	s.Log.L = slices.Clone(s.Log.L)
	for i, x := range s.Log.L {
		s.Log.L[i].Data = strings.Clone(x.Data)
	}
	s.Image, s.Piece = strings.Clone(s.Image), strings.Clone(s.Piece)
	s.Votes, s.Peers = slices.Clone(s.Votes), slices.Clone(s.Peers)
	return s
}

// say says a message in the node's name.
func (n *mind) say(to int, m api.Message) {
	m.From, m.To, m.Term = n.Id, to, n.Term
	n.said = append(n.said, m)
}

// last is the log's last index.
func (n *mind) last() uint64 {
	i, _ := tail.Last(n.Log)
	return i
}

// others are the members but the node itself.
func (n *mind) others() []int {
	return slices.DeleteFunc(Members(n.Raft), func(node int) bool { return node == n.Id })
}

// mayStand says whether the node is a member, or one that isn't taken away for good: it may be the only one that has the entry that does.
func (n *mind) mayStand() bool {
	members, at := tail.Conf(n.Log)
	if slices.Contains(members, n.Id) {
		return true
	}
	return at > n.Commit && slices.Contains(tail.ConfAt(n.Log, at-1), n.Id)
}

// follow makes the node one that follows a leader; of 0 it knows none.
func (n *mind) follow(term uint64, leader int) {
	if term > n.Term {
		n.Term, n.Vote = term, 0
	}
	n.Role, n.Leader = api.Follower, leader
	n.Votes, n.Peers = nil, nil
}

// stand asks the members for their votes, in a term of its own.
func (n *mind) stand() {
	n.Term++
	n.Vote, n.Votes = n.Id, []int{n.Id}
	n.Role, n.Leader, n.Peers = api.Candidate, 0, nil
	n.Ticks = 0
	if n.isChosen() {
		n.lead()
		return
	}
	index, term := tail.Last(n.Log)
	for _, node := range n.others() {
		n.say(node, api.Message{Kind: api.MsgVote, Index: index, LogTerm: term})
	}
}

// isChosen says whether a majority has voted for the node.
func (n *mind) isChosen() bool { return quorum.Most(Members(n.Raft), n.Votes) }

// lead begins with the peers, so that the entry that follows is the first that they are told.
func (n *mind) lead() {
	n.Role, n.Leader, n.Votes = api.Leader, n.Id, nil
	n.meet()
	n.enter(api.EntNone, "")
	n.spread()
}

// meet makes the peers those of the members: who was one ahead stays as it was.
func (n *mind) meet() {
	var peers []api.Peer
	for _, node := range n.others() {
		p := api.Peer{Node: node, Next: n.last() + 1}
		if known := n.peer(node); known != nil {
			p = *known
		}
		peers = append(peers, p)
	}
	n.Peers = peers
}

// peer is what is known of a node; nil of one that is no peer.
func (n *mind) peer(node int) *api.Peer {
	i := slices.IndexFunc(n.Peers, func(p api.Peer) bool { return p.Node == node })
	if i < 0 {
		return nil
	}
	return &n.Peers[i]
}

// enter appends an entry of the node's term.
func (n *mind) enter(kind int, data string) {
	n.Log.L = append(n.Log.L, api.Entry{Term: n.Term, Kind: kind, Data: data})
}

// spread commits what may be, and tells the peers what they lack.
func (n *mind) spread() {
	n.commit()
	if n.Role == api.Leader {
		n.updateAll()
	}
}

// commit commits what a majority has, but only by an entry of the node's term: one of a term below may still be written over.
func (n *mind) commit() {
	have := []api.At{{Node: n.Id, Index: n.last()}}
	for _, p := range n.Peers {
		have = append(have, api.At{Node: p.Node, Index: p.Match})
	}
	members, at := tail.Conf(n.Log)
	c := quorum.Commit(members, have...)
	if term, ok := tail.Term(n.Log, c); ok && c > n.Commit && term == n.Term {
		n.Commit = c
	}
	if at <= n.Commit && !slices.Contains(members, n.Id) {
		n.follow(n.Term, 0)
	}
}

// updateAll tells all peers what they lack.
func (n *mind) updateAll() {
	for _, p := range n.Peers {
		n.update(p)
	}
}

// update tells a peer what it lacks: a piece of the image, if the log has let go what comes next, else entries.
func (n *mind) update(p api.Peer) {
	g := n.Log
	if p.Next <= g.Base {
		n.say(p.Node, api.Message{Kind: api.MsgPiece, Index: g.Base, LogTerm: g.BaseTerm, Conf: slices.Clone(g.BaseConf), Offset: p.Offset, Size: len(n.Image), Data: pieceOf(n.Image, p.Offset)})
		return
	}
	term, _ := tail.Term(g, p.Next-1)
	n.say(p.Node, api.Message{Kind: api.MsgAppend, Index: p.Next - 1, LogTerm: term, Entries: tail.Slice(g, p.Next, api.MaxBatch), Commit: n.Commit})
}

// pieceOf is the piece of an image that begins at a place; none of a place that it hasn't.
func pieceOf(image string, at int) string {
	if at < 0 || at > len(image) {
		return ""
	}
	return strings.Clone(image[at:min(at+api.MaxPiece, len(image))])
}
