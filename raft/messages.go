package raft

import (
	"strings"

	"posthorn/api"
	"posthorn/quorum"
	"posthorn/tail"
)

// messages are what the kinds of messages do; others do nothing.
func messages() [api.MsgGot + 1]func(*mind, api.Message) {
	return [...]func(*mind, api.Message){
		api.MsgVote:   (*mind).hearVote,
		api.MsgGrant:  (*mind).hearGrant,
		api.MsgAppend: (*mind).hearAppend,
		api.MsgAck:    (*mind).hearAck,
		api.MsgPiece:  (*mind).hearPiece,
		api.MsgGot:    (*mind).hearGot,
	}
}

// hearVote hears of one that stands.
func (n *mind) hearVote(m api.Message) {
	free := n.Role == api.Follower && (n.Vote == 0 || n.Vote == m.From)
	granted := m.Term == n.Term && free && tail.Newer(n.Log, m.Index, m.LogTerm)
	if granted {
		n.Vote, n.Ticks = m.From, 0
	}
	n.say(m.From, api.Message{Kind: api.MsgGrant, Ok: granted})
}

// hearGrant hears of a vote.
func (n *mind) hearGrant(m api.Message) {
	if n.Role != api.Candidate || m.Term != n.Term || !m.Ok {
		return
	}
	n.Votes = add(n.Votes, m.From)
	if n.isChosen() {
		n.lead()
	}
}

// heeds says whether a message is of the term's leader, whom the node then follows.
func (n *mind) heeds(m api.Message) bool {
	if m.Term < n.Term {
		n.say(m.From, api.Message{Kind: api.MsgAck})
		return false
	}
	if n.Role == api.Leader {
		return false
	}
	n.follow(n.Term, m.From)
	n.Ticks = 0
	return true
}

// hearAppend hears of entries.
func (n *mind) hearAppend(m api.Message) {
	if !n.heeds(m) {
		return
	}
	g, turned, fits := tail.Merge(n.Log, m.Index, m.LogTerm, m.Entries)
	if !fits {
		n.say(m.From, api.Message{Kind: api.MsgAck, Index: min(n.last(), max(m.Index, 1)-1)})
		return
	}
	if turned != 0 && turned <= n.Commit {
		return
	}
	n.Log = g
	match := m.Index + uint64(len(m.Entries))
	n.Commit = max(n.Commit, min(m.Commit, match, n.last()))
	n.say(m.From, api.Message{Kind: api.MsgAck, Ok: true, Index: match})
}

// hearPiece hears of a piece of an image.
func (n *mind) hearPiece(m api.Message) {
	if !n.heeds(m) || !mayBePiece(m) {
		return
	}
	if m.Index <= n.Commit {
		n.say(m.From, api.Message{Kind: api.MsgAck, Ok: true, Index: m.Index})
		return
	}
	there := ""
	if n.PieceIndex == m.Index && n.PieceTerm == m.LogTerm {
		there = n.Piece
	}
	if m.Offset == len(there) {
		there += strings.Clone(m.Data)
		n.Piece, n.PieceIndex, n.PieceTerm = there, m.Index, m.LogTerm
		if len(there) == m.Size {
			n.install(m)
			return
		}
	}
	n.say(m.From, api.Message{Kind: api.MsgGot, Index: m.Index, Offset: len(there)})
}

// mayBePiece says whether a message may be a piece of an image.
func mayBePiece(m api.Message) bool {
	if m.Size < 0 || m.Size > api.MaxImage || m.Offset < 0 || m.Offset > m.Size {
		return false
	}
	return len(m.Data) <= min(api.MaxPiece, m.Size-m.Offset) && quorum.Right(m.Conf)
}

// install puts the image whose last piece was heard in the place of the log's beginning.
func (n *mind) install(m api.Message) {
	n.Log = tail.Install(n.Log, m.Index, m.LogTerm, m.Conf)
	n.Image, n.Commit = n.Piece, m.Index
	n.Piece, n.PieceIndex, n.PieceTerm = "", 0, 0
	n.say(m.From, api.Message{Kind: api.MsgAck, Ok: true, Index: m.Index})
}

// hearAck hears what a peer has, or where its log may go on.
func (n *mind) hearAck(m api.Message) {
	p := n.teller(m)
	if p == nil {
		return
	}
	if !m.Ok {
		if m.Index < p.Next { // asked so, since behind the greatest index the next one turns round
			p.Next = max(m.Index, p.Match) + 1
		}
		n.update(*p)
		return
	}
	if m.Index <= p.Match || m.Index > n.last() {
		return
	}
	p.Match, p.Next, p.Offset = m.Index, max(p.Next, m.Index+1), 0
	n.commit()
	if n.Role == api.Leader && p.Next <= n.last() {
		n.update(*p)
	}
}

// hearGot hears how much of the image a peer has.
func (n *mind) hearGot(m api.Message) {
	p := n.teller(m)
	if p == nil || p.Next > n.Log.Base || m.Index != n.Log.Base || m.Offset < 0 || m.Offset > len(n.Image) {
		return
	}
	p.Offset = m.Offset
	n.update(*p)
}

// teller is the peer of whom a leader hears in its term; nil otherwise.
func (n *mind) teller(m api.Message) *api.Peer {
	if n.Role != api.Leader || m.Term != n.Term {
		return nil
	}
	return n.peer(m.From)
}
