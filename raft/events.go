package raft

import (
	"slices"
	"strings"

	"posthorn/api"
	"posthorn/quorum"
	"posthorn/tail"
)

// justNow is how many ticks a leader that was heard of counts as heard of just now.
const justNow = 3

// events are what the kinds of events do. With an error they have changed nothing.
func events() [api.EvCompact + 1]func(*mind, api.Event) api.Errno {
	return [...]func(*mind, api.Event) api.Errno{
		api.EvTick:    (*mind).tick,
		api.EvHear:    (*mind).hear,
		api.EvPropose: (*mind).propose,
		api.EvCompact: (*mind).compact,
	}
}

// tick lets a unit of time pass.
func (n *mind) tick(api.Event) api.Errno {
	if n.Role == api.Leader {
		n.updateAll()
		return api.OK
	}
	n.Ticks++
	if n.Ticks >= n.Timeout && n.Term < maxTerm && n.mayStand() {
		n.stand()
	}
	return api.OK
}

// propose appends an entry that was brought to the leader.
func (n *mind) propose(e api.Event) api.Errno {
	if errno := n.mayEnter(e.Entry); errno != api.OK {
		return errno
	}
	n.enter(e.Entry.Kind, strings.Clone(e.Entry.Data))
	if e.Entry.Kind == api.EntConf {
		n.meet()
	}
	n.spread()
	return api.OK
}

// mayEnter tells why an entry may not be appended.
func (n *mind) mayEnter(x api.Entry) api.Errno {
	if n.Role != api.Leader {
		return api.ErrLead
	}
	if x.Kind != api.EntConf && x.Kind != api.EntMail {
		return api.ErrArg
	}
	if len(x.Data) > api.MaxData {
		return api.ErrLong
	}
	if len(n.Log.L) >= api.MaxLog {
		return api.ErrFull
	}
	if x.Kind == api.EntConf {
		return n.mayChange(x.Data)
	}
	return api.OK
}

// mayChange tells why the members may not become those of a text.
func (n *mind) mayChange(data string) api.Errno {
	members, at := tail.Conf(n.Log)
	next, e := quorum.Read(data)
	if e != api.OK || !quorum.Step(members, next) {
		return api.ErrArg
	}
	if term, _ := tail.Term(n.Log, n.Commit); at > n.Commit || term != n.Term {
		return api.ErrBusy
	}
	return api.OK
}

// compact puts an image in the place of the log's beginning.
func (n *mind) compact(e api.Event) api.Errno {
	if e.Index <= n.Log.Base || e.Index > n.Commit || len(e.Image) > api.MaxImage {
		return api.ErrArg
	}
	n.Log, _ = tail.Compact(n.Log, e.Index)
	n.Image = strings.Clone(e.Image)
	for i := range n.Peers {
		n.Peers[i].Offset = 0
	}
	return api.OK
}

// hear hears a message of another node.
func (n *mind) hear(e api.Event) api.Errno {
	m := e.Message
	if m.To != n.Id || m.From == n.Id || !isNode(m.From) || m.Term > maxTerm {
		return api.ErrArg
	}
	if m.Term > n.Term {
		if m.Kind == api.MsgVote && n.isLed() {
			return api.OK
		}
		n.follow(m.Term, 0)
	}
	does := messages()
	if m.Kind >= api.MsgVote && m.Kind < len(does) {
		does[m.Kind](n, m)
	}
	return api.OK
}

// isLed says whether there is a leader, so that who asks for votes has but lost sight of it.
func (n *mind) isLed() bool {
	return n.Role == api.Leader || n.Leader != 0 && n.Ticks < justNow
}

// add puts a node into a rising list, once.
func add(l []int, node int) []int {
	at, there := slices.BinarySearch(l, node)
	if there {
		return l
	}
	return slices.Insert(l, at, node)
}
