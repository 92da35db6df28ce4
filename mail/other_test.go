package mail_test

import (
	"maps"
	"math/big"
	"reflect"
	"regexp"
	"slices"
	"strings"
	"testing"

	"posthorn/api"
	"posthorn/mail"
)

const (
	maxUid     = 1<<32 - 1
	maxMod     = 1<<63 - 1
	maxSession = 1 << 62
	maxNumber  = 1<<64 - 1
)

// hash is a digest, of which only its 32 bytes count here.
func hash(i int) string { return strings.Repeat("h", 30) + string([]byte{byte(i >> 8), byte(i)}) }

// deep is a state in memory of its own; empty lists are none there.
func deep(s api.Mail) api.Mail {
	next := s
	next.Boxes = nil
	for _, b := range s.Boxes {
		next.Boxes = append(next.Boxes, deepBox(b))
	}
	next.Homes = append([]api.Home(nil), s.Homes...)
	next.Seats = append([]api.Seat(nil), s.Seats...)
	return next
}

func deepBox(b api.Box) api.Box {
	next := b
	next.Name, next.Letters = strings.Clone(b.Name), nil
	for _, x := range b.Letters {
		x.Flags, x.Hash = deepTexts(x.Flags), strings.Clone(x.Hash)
		next.Letters = append(next.Letters, x)
	}
	return next
}

func deepTexts(l []string) []string {
	var next []string
	for _, s := range l {
		next = append(next, strings.Clone(s))
	}
	return next
}

func deepRequest(r api.Request) api.Request {
	r.Box, r.To, r.Hash = strings.Clone(r.Box), strings.Clone(r.To), strings.Clone(r.Hash)
	r.Uids = append([]api.Range(nil), r.Uids...)
	r.Flags = deepTexts(r.Flags)
	return r
}

func deepOutcome(o api.Outcome) api.Outcome {
	o.Uids = append([]uint64(nil), o.Uids...)
	o.Modified = append([]uint64(nil), o.Modified...)
	return o
}

// is checks that a state is another one, and that Same says so.
func is(t *testing.T, got, want api.Mail) {
	t.Helper()
	if !reflect.DeepEqual(got, want) && !reflect.DeepEqual(deep(got), deep(want)) {
		t.Fatalf("it is\n%+v; must be\n%+v", got, want)
	}
	if !mail.Same(got, want) || !mail.Same(want, got) {
		t.Fatalf("Same says that it isn't itself: %+v", got)
	}
}

// keyword and name are what layers 6 and 4 say, by another road.
var (
	keyword = regexp.MustCompile("^[!#$&'+,\\-./0-9:;<=>?@\\[^_`a-z|}~]{1,32}$")
	name    = regexp.MustCompile(`^[!#$&-)+-\[\]-~]([ !#$&-)+-\[\]-~]{0,62}[!#$&-)+-\[\]-~])?$`)
)

// isKept says whether a flag is one, as it is kept.
func isKept(f string) bool { return rank(f) < 5 || keyword.MatchString(f) }

// rank is a flag's place among those of the system; 5 of any other.
func rank(f string) int {
	if i := slices.Index([]string{`\Answered`, `\Flagged`, `\Deleted`, `\Seen`, `\Draft`}, f); i >= 0 {
		return i
	}
	return 5
}

// ordered are flags in a set's order.
func ordered(set map[string]int) []string {
	return slices.SortedFunc(maps.Keys(set), func(a, b string) int {
		if rank(a) != rank(b) {
			return rank(a) - rank(b)
		}
		return strings.Compare(a, b)
	})
}

func setOf(l []string) map[string]int {
	set := map[string]int{}
	for _, f := range l {
		set[f]++
	}
	return set
}

// isSet says whether a list is a set of flags.
func isSet(l []string) bool {
	for _, f := range l {
		if !isKept(f) {
			return false
		}
	}
	return len(l) <= 16 && slices.Equal(ordered(setOf(l)), l)
}

// isName says whether a text is a mailbox's name as it is kept.
func isName(s string) bool {
	return name.MatchString(s) && (s == "INBOX" || strings.ToUpper(s) != "INBOX")
}

// isIn says whether a number is in a set, by another road than layer 5's.
func isIn(l []api.Range, most, n uint64) bool {
	for _, r := range l {
		if r.From == 0 {
			r.From = most
		}
		if r.To == 0 {
			r.To = most
		}
		if min(r.From, r.To) <= n && n <= max(r.From, r.To) {
			return true
		}
	}
	return false
}

// world is a state by another road: what stands in lists there stands in maps here, and is sorted again behind each operation.
type world struct {
	boxes map[string]*room
	homes map[int]api.Home
	seats map[uint64]api.Seat
	s     api.Mail // its numbers
}

type room struct {
	validity, next, high uint64
	letters              map[uint64]api.Letter
}

func worldOf(s api.Mail) *world {
	w := &world{map[string]*room{}, map[int]api.Home{}, map[uint64]api.Seat{}, s}
	for _, b := range s.Boxes {
		w.boxes[b.Name] = &room{b.Validity, b.Next, b.High, map[uint64]api.Letter{}}
		for _, x := range b.Letters {
			w.boxes[b.Name].letters[x.Uid] = x
		}
	}
	for _, h := range s.Homes {
		w.homes[h.Node] = h
	}
	for _, x := range s.Seats {
		w.seats[x.Session] = x
	}
	return w
}

func (w *world) mail() api.Mail {
	s := w.s
	s.Boxes, s.Homes, s.Seats = nil, nil, nil
	for _, name := range slices.Sorted(maps.Keys(w.boxes)) {
		b := w.boxes[name]
		box := api.Box{Name: name, Validity: b.validity, Next: b.next, High: b.high}
		for _, uid := range b.uids() {
			box.Letters = append(box.Letters, b.letters[uid])
		}
		s.Boxes = append(s.Boxes, box)
	}
	for _, node := range slices.Sorted(maps.Keys(w.homes)) {
		s.Homes = append(s.Homes, w.homes[node])
	}
	for _, session := range slices.Sorted(maps.Keys(w.seats)) {
		s.Seats = append(s.Seats, w.seats[session])
	}
	return s
}

// uids are a mailbox's Uids, rising.
func (b *room) uids() []uint64 { return slices.Sorted(maps.Keys(b.letters)) }

// meant are the Uids of the letters that a set means.
func (b *room) meant(l []api.Range) []uint64 {
	most := uint64(0)
	for uid := range b.letters {
		most = max(most, uid)
	}
	return slices.DeleteFunc(b.uids(), func(uid uint64) bool { return !isIn(l, most, uid) })
}

// put puts letters at a mailbox's end.
func (b *room) put(l ...api.Letter) []uint64 {
	var put []uint64
	b.high++
	for _, x := range l {
		b.letters[b.next] = api.Letter{Uid: b.next, Flags: x.Flags, Mod: b.high, Hash: x.Hash, Size: x.Size}
		put = append(put, b.next)
		b.next++
	}
	return put
}

// fits says whether a number and so many more are at most a limit, by numbers that never turn round.
func fits(n uint64, more int, limit uint64) bool {
	sum := new(big.Int).Add(new(big.Int).SetUint64(n), big.NewInt(int64(more)))
	return sum.Cmp(new(big.Int).SetUint64(limit)) <= 0
}

// otherApply is Apply by another road.
func otherApply(s api.Mail, r api.Request) (api.Mail, api.Outcome) {
	w := worldOf(s)
	if r.Op < 1 || r.Op > 10 || len(r.Uids) > 64 {
		return w.mail(), api.Outcome{Code: api.ErrArg}
	}
	if r.Op == api.OpOpen {
		o := w.open(r)
		return w.mail(), o
	}
	if r.Op == api.OpSweep {
		if !fits(w.s.Sweeps, 1, maxMod) {
			return w.mail(), api.Outcome{Code: api.ErrSpent}
		}
		w.s.Sweeps++
		return w.mail(), api.Outcome{}
	}
	seat, ok := w.seats[r.Session]
	if !ok {
		return w.mail(), api.Outcome{Code: api.ErrSeat}
	}
	if seat.Last >= r.Number {
		return w.mail(), api.Outcome{Code: api.ErrOld}
	}
	seat.Last = r.Number
	w.seats[r.Session] = seat
	before := w.mail()
	o := w.turn(r)
	if o.Code != api.OK {
		return before, o
	}
	return w.mail(), o
}

func (w *world) open(r api.Request) api.Outcome {
	if r.Node < 1 || r.Node > 5 || r.Life == 0 || r.Try == 0 {
		return api.Outcome{Code: api.ErrArg}
	}
	h, known := w.homes[r.Node]
	switch {
	case known && r.Life < h.Life:
		return api.Outcome{Code: api.ErrOld}
	case known && r.Life == h.Life && r.Try <= h.Try:
		for _, x := range w.seats {
			if x.Node == r.Node && x.Try == r.Try {
				return api.Outcome{Session: x.Session}
			}
		}
		return api.Outcome{Code: api.ErrOld}
	}
	left := maps.Clone(w.seats)
	if !known || r.Life > h.Life {
		maps.DeleteFunc(left, func(_ uint64, x api.Seat) bool { return x.Node == r.Node })
	}
	if len(left) == 16 || w.s.NextSession == maxSession {
		return api.Outcome{Code: api.ErrFull}
	}
	session := w.s.NextSession
	left[session] = api.Seat{Session: session, Node: r.Node, Life: r.Life, Try: r.Try}
	w.s.NextSession++
	w.seats, w.homes[r.Node] = left, api.Home{Node: r.Node, Life: r.Life, Try: r.Try}
	return api.Outcome{Session: session}
}

// turn does what a session asks; with an error it may have turned anything.
func (w *world) turn(r api.Request) api.Outcome {
	no := func(e api.Errno) api.Outcome { return api.Outcome{Code: e} }
	b, there := w.boxes[r.Box]
	switch r.Op {
	case api.OpEnd:
		delete(w.seats, r.Session)
	case api.OpCreate:
		switch {
		case !isName(r.Box):
			return no(api.ErrArg)
		case there:
			return no(api.ErrTwice)
		case len(w.boxes) == 8:
			return no(api.ErrFull)
		case !fits(w.s.NextValidity, 0, maxUid):
			return no(api.ErrSpent)
		}
		w.boxes[r.Box] = &room{w.s.NextValidity, 1, 1, map[uint64]api.Letter{}}
		w.s.NextValidity++
		return api.Outcome{Validity: w.boxes[r.Box].validity}
	case api.OpDelete:
		if r.Box == "INBOX" {
			return no(api.ErrArg)
		}
		if !there {
			return no(api.ErrNone)
		}
		delete(w.boxes, r.Box)
	case api.OpAppend:
		switch {
		case !there:
			return no(api.ErrNone)
		case !isSet(r.Flags), len(r.Hash) != 32, r.Size > 4096:
			return no(api.ErrArg)
		case r.Sweeps != w.s.Sweeps:
			return no(api.ErrAgain)
		case len(b.letters) == 32:
			return no(api.ErrFull)
		case !fits(b.next, 0, maxUid), !fits(b.high, 1, maxMod):
			return no(api.ErrSpent)
		}
		return api.Outcome{Validity: b.validity, Uids: b.put(api.Letter{Flags: r.Flags, Hash: r.Hash, Size: r.Size})}
	case api.OpStore, api.OpExpunge, api.OpCopy:
		if !there || b.validity != r.Validity {
			return no(api.ErrNone)
		}
		switch r.Op {
		case api.OpStore:
			return w.store(b, r)
		case api.OpExpunge:
			return w.expunge(b, r)
		}
		return w.copy(b, r)
	}
	return api.Outcome{}
}

func (w *world) store(b *room, r api.Request) api.Outcome {
	if !isSet(r.Flags) || r.How < 0 || r.How > 2 {
		return api.Outcome{Code: api.ErrArg}
	}
	var o api.Outcome
	turned, full := map[uint64][]string{}, false
	for _, uid := range b.meant(r.Uids) {
		x := b.letters[uid]
		if r.HasSince && x.Mod > r.Since {
			o.Modified = append(o.Modified, uid)
			continue
		}
		o.Uids = append(o.Uids, uid)
		set := setOf(x.Flags)
		if r.How == 0 {
			set = map[string]int{}
		}
		for _, f := range r.Flags {
			set[f]++
			if r.How == 2 {
				delete(set, f)
			}
		}
		full = full || len(set) > 16
		if l := ordered(set); !slices.Equal(l, x.Flags) {
			turned[uid] = l
		}
	}
	if full {
		return api.Outcome{Code: api.ErrFull}
	}
	if len(turned) > 0 && !fits(b.high, 1, maxMod) {
		return api.Outcome{Code: api.ErrSpent}
	}
	if len(turned) > 0 {
		b.high++
	}
	for uid, l := range turned {
		x := b.letters[uid]
		x.Flags, x.Mod = l, b.high
		b.letters[uid] = x
	}
	return o
}

func (w *world) expunge(b *room, r api.Request) api.Outcome {
	var gone []uint64
	of := b.uids()
	if len(r.Uids) > 0 {
		of = b.meant(r.Uids)
	}
	for _, uid := range of {
		if slices.Contains(b.letters[uid].Flags, `\Deleted`) {
			gone = append(gone, uid)
		}
	}
	if len(gone) > 0 && !fits(b.high, 1, maxMod) {
		return api.Outcome{Code: api.ErrSpent}
	}
	for i, uid := range gone {
		if i == 0 {
			b.high++
		}
		delete(b.letters, uid)
	}
	return api.Outcome{Uids: gone}
}

func (w *world) copy(b *room, r api.Request) api.Outcome {
	to, there := w.boxes[r.To]
	if !there {
		return api.Outcome{Code: api.ErrTry}
	}
	var l []api.Letter
	for _, uid := range b.meant(r.Uids) {
		l = append(l, b.letters[uid])
	}
	switch {
	case len(l) == 0:
		return api.Outcome{Validity: to.validity}
	case len(to.letters)+len(l) > 32:
		return api.Outcome{Code: api.ErrFull}
	case !fits(to.next, len(l), maxUid+1), !fits(to.high, 1, maxMod):
		return api.Outcome{Code: api.ErrSpent}
	}
	return api.Outcome{Validity: to.validity, Uids: to.put(l...)}
}

// otherRight is Right by another road: a list is right if it is what is made of its parts when they are laid into a map.
func otherRight(s api.Mail) bool {
	ok := len(s.Boxes) <= 8 && fits(s.NextValidity, 0, maxUid+1) && fits(s.Sweeps, 0, maxMod) && s.NextSession >= 1 && fits(s.NextSession, 0, maxSession) && len(s.Seats) <= 16
	validities, names, tries := map[uint64]int{}, map[string]int{}, map[api.Home]int{}
	for _, b := range s.Boxes {
		validities[b.Validity]++
		names[b.Name]++
		ok = ok && isName(b.Name) && b.Validity > 0 && b.Validity < s.NextValidity && validities[b.Validity] == 1
		ok = ok && b.Next > 0 && b.Next <= maxUid+1 && b.High > 0 && b.High <= maxMod && len(b.Letters) <= 32
		for _, x := range b.Letters {
			ok = ok && x.Uid > 0 && x.Uid < b.Next && x.Mod > 0 && x.Mod <= b.High && isSet(x.Flags) && len(x.Hash) == 32 && x.Size <= 4096
		}
	}
	for _, h := range s.Homes {
		ok = ok && slices.Contains([]int{1, 2, 3, 4, 5}, h.Node) && h.Life > 0 && h.Try > 0
	}
	for _, x := range s.Seats {
		i := slices.IndexFunc(s.Homes, func(h api.Home) bool { return h.Node == x.Node })
		by := api.Home{Node: x.Node, Try: x.Try}
		tries[by]++
		ok = ok && i >= 0 && x.Session > 0 && x.Session < s.NextSession && x.Try > 0 && tries[by] == 1
		ok = ok && s.Homes[i].Life == x.Life && x.Try <= s.Homes[i].Try
	}
	return ok && names["INBOX"] == 1 && reflect.DeepEqual(deep(worldOf(s).mail()), deep(s))
}
