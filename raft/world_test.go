package raft_test

import (
	"fmt"
	"hash/fnv"
	"math/rand"
	"reflect"
	"slices"
	"testing"

	"posthorn/api"
	"posthorn/raft"
)

// fact is what is committed at an index: the entry, in which term that was first known, the members then, and a sum of all up to there.
type fact struct {
	entry api.Entry
	known uint64
	conf  []int
	sum   uint64
}

// world is nodes, of which just what must last does, messages under way between them, and all that was ever known of them.
type world struct {
	t       *testing.T
	dice    *rand.Rand
	minds   [6]api.Raft // by their numbers
	flying  []api.Message
	first   []int             // the members at first
	terms   [6]uint64         // the greatest term of each
	votes   map[[2]uint64]int // by node and term
	leaders map[uint64]int    // by term
	facts   []fact            // by index; the first is none
	saw     map[string]int    // how often what happened
	away    int               // who is cut off, if anybody
}

// newWorld is a world of some members; who is none of them knows nothing.
func newWorld(t *testing.T, dice *rand.Rand, first []int, timeouts [6]int) *world {
	w := &world{t: t, dice: dice, first: first, votes: map[[2]uint64]int{}, leaders: map[uint64]int{}, facts: make([]fact, 1), saw: map[string]int{}}
	w.facts[0].conf = first
	for id := 1; id <= 5; id++ {
		g := api.Log{}
		if slices.Contains(first, id) {
			g.BaseConf = first
		}
		w.minds[id] = made(t, id, api.Hard{}, g, "", timeouts[id])
	}
	return w
}

// step does a step of a node, and holds what comes of it against all that is known.
func (w *world) step(id int, e api.Event) api.Errno {
	w.t.Helper()
	was := w.minds[id]
	now, out, errno := raft.Step(was, e)
	w.minds[id] = now
	w.flying = append(w.flying, out...)
	if now.Commit < was.Commit || now.Log.Base < was.Log.Base {
		w.t.Fatalf("Commit falls from %d to %d, Base from %d to %d", was.Commit, now.Commit, was.Log.Base, now.Log.Base)
	}
	w.learn(id)
	w.holds(id)
	if now.Role == api.Leader && was.Role != api.Leader {
		w.saw["leaders"]++
		w.complete(id)
	}
	if was.Role == api.Leader && now.Role != api.Leader && now.Term == was.Term {
		w.saw["taken away"]++
	}
	if e.Kind == api.EvHear && e.Message.Kind == api.MsgPiece && now.Log.Base > was.Log.Base {
		w.saw["images"]++
	}
	if !reflect.DeepEqual(deepLog(was.Log), deepLog(now.Log)) {
		w.match(id)
	}
	return errno
}

// learn takes what a node knows to be committed: P17.6.
func (w *world) learn(id int) {
	w.t.Helper()
	s := w.minds[id]
	for i := s.Log.Base + 1; i <= s.Commit; i++ {
		x := s.Log.L[i-s.Log.Base-1]
		if i < uint64(len(w.facts)) {
			if w.facts[i].entry != x {
				w.t.Fatalf("node %d knows %v to be committed at %d, and %v was", id, x, i, w.facts[i].entry)
			}
			continue
		}
		if i != uint64(len(w.facts)) {
			w.t.Fatalf("node %d knows what is committed at %d, and nobody what is ahead of it", id, i)
		}
		ahead := w.facts[i-1]
		next := fact{entry: x, known: s.Term, conf: ahead.conf}
		if x.Kind == api.EntConf {
			next.conf = said[x.Data]
			w.saw["changes"]++
		}
		h := fnv.New64a()
		fmt.Fprint(h, ahead.sum, x)
		next.sum = h.Sum64()
		w.facts = append(w.facts, next)
		w.saw["commits"]++
	}
	if s.Commit >= uint64(len(w.facts)) {
		w.t.Fatalf("node %d knows what is committed up to %d, and nobody else does", id, s.Commit)
	}
}

// image is the one that stands for all up to an index.
func (w *world) image(i uint64) string {
	if i == 0 {
		return ""
	}
	return fmt.Sprint(w.facts[i].sum) + noise(int(w.facts[i].sum%9000))
}

// holds checks what holds of each state: P17.4.
func (w *world) holds(id int) {
	w.t.Helper()
	s := w.minds[id]
	if s.Term < w.terms[id] {
		w.t.Fatalf("the term of node %d falls from %d to %d", id, w.terms[id], s.Term)
	}
	w.terms[id] = s.Term
	at := [2]uint64{uint64(id), s.Term}
	if had := w.votes[at]; had != 0 && had != s.Vote {
		w.t.Fatalf("node %d votes for %d and %d in term %d", id, had, s.Vote, s.Term)
	}
	w.votes[at] = s.Vote
	if s.Role == api.Leader {
		if had := w.leaders[s.Term]; had != 0 && had != id {
			w.t.Fatalf("%d and %d lead in term %d", had, id, s.Term)
		}
		w.leaders[s.Term] = id
	}
	g, last := s.Log, s.Log.Base+uint64(len(s.Log.L))
	base := w.facts[g.Base]
	if s.Commit < g.Base || s.Commit > last || g.BaseTerm != base.entry.Term || s.Image != w.image(g.Base) {
		w.t.Fatalf("node %d: %s", id, brief(s))
	}
	unsaid := len(g.BaseConf) == 0 && !slices.Contains(w.first, id) && slices.Equal(base.conf, w.first) // no entry up to there told it who the members are
	if g.Base > 0 && !unsaid && !slices.Equal(g.BaseConf, base.conf) {
		w.t.Fatalf("node %d: the members at %d were %v, not %v", id, g.Base, base.conf, g.BaseConf)
	}
	for _, x := range g.L {
		if x.Term > s.Term {
			w.t.Fatalf("node %d: %s", id, brief(s))
		}
	}
}

// complete checks that who leads has all that was committed in terms below its own: P17.7.
func (w *world) complete(id int) {
	w.t.Helper()
	s := w.minds[id]
	for i, x := range w.facts[s.Log.Base:] {
		if i > 0 && x.known < s.Term && (i > len(s.Log.L) || s.Log.L[i-1] != x.entry) {
			w.t.Fatalf("node %d leads in term %d, and lacks what was committed at %d in term %d", id, s.Term, s.Log.Base+uint64(i), x.known)
		}
	}
}

// match checks that a node's log, and each other's, are the same up to the last entries of one index and one term: P17.5.
func (w *world) match(id int) {
	w.t.Helper()
	a := w.minds[id].Log
	for other := 1; other <= 5; other++ {
		b := w.minds[other].Log
		end := min(a.Base+uint64(len(a.L)), b.Base+uint64(len(b.L)))
		same := false
		for i := end; i > max(a.Base, b.Base); i-- {
			x, y := a.L[i-a.Base-1], b.L[i-b.Base-1]
			same = same || x.Term == y.Term
			if same && x != y {
				w.t.Fatalf("nodes %d and %d have %v and %v at %d, and the same behind it", id, other, x, y, i)
			}
		}
	}
}

// begin begins a node anew, with what lasts.
func (w *world) begin(id int) {
	s := w.minds[id]
	w.minds[id] = made(w.t, id, api.Hard{Term: s.Term, Vote: s.Vote}, s.Log, s.Image, s.Timeout)
	w.saw["begun"]++
}

// fly takes a message from those under way, or keeps it there, too.
func (w *world) fly(keep bool) api.Message {
	i := w.dice.Intn(len(w.flying))
	m := w.flying[i]
	if !keep {
		w.flying = slices.Delete(w.flying, i, i+1)
	}
	return m
}

// act does something, by dice.
func (w *world) act(changes bool) {
	w.t.Helper()
	id := w.dice.Intn(5) + 1
	s := w.minds[id]
	switch n := w.dice.Intn(100); {
	case len(w.flying) > 40:
		w.fly(false)
	case n < 60 && len(w.flying) > 0:
		m := w.fly(n < 10)
		if m.From != w.away && m.To != w.away {
			w.step(m.To, hear(m))
		}
	case n < 65 && len(w.flying) > 0:
		w.fly(false)
	case n < 80:
		w.step(id, tick)
	case n < 81:
		w.begin(id)
	case n < 82:
		w.away = w.dice.Intn(6)
	case n < 88:
		if s.Commit > s.Log.Base {
			i := s.Log.Base + 1 + uint64(w.dice.Intn(int(s.Commit-s.Log.Base)))
			w.step(id, compact(i, w.image(i)))
		}
	default:
		w.offer(id, changes && n < 93)
	}
}

// offer proposes something to whom leads, or believes so, or to a node.
func (w *world) offer(id int, change bool) {
	w.t.Helper()
	for other := 1; other <= 5; other++ {
		if w.minds[other].Role == api.Leader && w.dice.Intn(2) == 0 {
			id = other
		}
	}
	e := propose(fmt.Sprint(w.dice.Intn(1000)))
	if change {
		e.Entry = conf(0, allMembers()[w.dice.Intn(31)]...)
	}
	if w.step(id, e) == api.OK {
		w.saw["proposals"]++
	}
}

// sawAll checks that enough of everything happened.
func sawAll(t *testing.T, saw map[string]int, least map[string]int) {
	t.Helper()
	for what, n := range least {
		if saw[what] < n {
			t.Errorf("%d %s, must be %d", saw[what], what, n)
		}
	}
}

// TestWorlds: P17.4 to P17.7, whatever is lost, doubled, late, in whatever order, whoever begins anew; of members that stay.
func TestWorlds(t *testing.T) {
	saw := map[string]int{}
	for seed := range int64(40) {
		w := newWorld(t, rand.New(rand.NewSource(seed)), [][]int{{1, 2, 3}, {1, 2, 3, 4, 5}, {2, 5}, {4}}[seed%4], [6]int{0, 3, 4, 5, 4, 3})
		for range 2000 {
			w.act(false)
		}
		for what, n := range w.saw {
			saw[what] += n
		}
	}
	sawAll(t, saw, map[string]int{"leaders": 200, "commits": 3000, "begun": 500, "images": 50})
}

// TestWorldsThatChange: P17.4 to P17.7, likewise, of members that come and go.
func TestWorldsThatChange(t *testing.T) {
	if testing.Short() {
		t.Skip("it takes seconds")
	}
	saw := map[string]int{}
	for seed := range int64(80) {
		w := newWorld(t, rand.New(rand.NewSource(seed)), allMembers()[seed%31], [6]int{0, 3, 4, 5, 4, 3})
		for range 2000 {
			w.act(true)
		}
		for what, n := range w.saw {
			saw[what] += n
		}
	}
	sawAll(t, saw, map[string]int{"leaders": 500, "commits": 4000, "begun": 1000, "images": 200, "changes": 300, "taken away": 30})
}

// calm lets units of time pass in which all that is said is heard, in order.
func (w *world) calm(units int) {
	w.t.Helper()
	w.flying = nil
	for range units {
		for id := 1; id <= 5; id++ {
			w.step(id, tick)
		}
		for n := 0; len(w.flying) > 0; n++ {
			if n > 1000 {
				w.t.Fatal("they don't end")
			}
			m := w.flying[0]
			w.flying = w.flying[1:]
			w.step(m.To, hear(m))
		}
	}
}

// TestCalm: behind whatever happened one comes to lead, all members to the same, and what is proposed then is committed.
func TestCalm(t *testing.T) {
	for seed := range int64(24) {
		w := newWorld(t, rand.New(rand.NewSource(seed)), [][]int{{1, 2, 3, 4, 5}, {2, 4, 5}, {1, 3}, {3}}[seed%4], [6]int{0, 9, 19, 29, 39, 49})
		for range 600 {
			w.act(false)
		}
		w.calm(400)
		lead := 0
		for id := 1; id <= 5; id++ {
			if w.minds[id].Role == api.Leader {
				lead = 10*lead + id
			}
		}
		if !slices.Contains(w.first, lead) {
			t.Fatalf("%d lead", lead)
		}
		if e := w.step(lead, propose("calm")); e != api.OK {
			t.Fatal(e)
		}
		w.calm(2)
		s := w.minds[lead]
		for _, id := range w.first {
			x := w.minds[id]
			if x.Term != s.Term || x.Leader != lead || x.Commit != s.Log.Base+uint64(len(s.Log.L)) || x.Commit+1 != uint64(len(w.facts)) {
				t.Errorf("node %d: %s; %d leads: %s", id, brief(x), lead, brief(s))
			}
		}
	}
}
