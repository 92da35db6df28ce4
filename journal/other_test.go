package journal_test

import (
	"encoding/binary"
	"hash/crc32"
	"maps"
	"math"
	"slices"
	"strings"
	"testing"

	"posthorn/api"
	"posthorn/disk"
	"posthorn/journal"
)

// What a journal must do, by another road: records are told by writing them anew, and files by counting them.

func num(n uint64) string { return string(binary.AppendUvarint(nil, n)) }

func text(s string) string { return num(uint64(len(s))) + s }

func nums(l []int) string {
	s := num(uint64(len(l)))
	for _, n := range l {
		s += num(uint64(n))
	}
	return s
}

func baseBody(base, term uint64, conf []int, size int) string {
	return num(1) + num(base) + num(term) + nums(conf) + num(uint64(size))
}

func pieceBody(s string) string { return num(2) + text(s) }

func hardBody(term uint64, vote int, life uint64) string {
	return num(3) + num(term) + num(uint64(vote)) + num(life)
}

func entryBody(index uint64, x api.Entry) string {
	return num(4) + num(index) + num(x.Term) + num(uint64(x.Kind)) + text(x.Data)
}

// row is frames of bodies.
func row(bodies ...string) string {
	var b []byte
	for _, body := range bodies {
		b = binary.BigEndian.AppendUint32(b, uint32(len(body)))
		b = binary.BigEndian.AppendUint32(b, crc32.ChecksumIEEE([]byte(body)))
		b = append(b, body...)
	}
	return string(b)
}

// found is a state.
type found struct {
	hard  api.Hard
	log   api.Log
	image string
}

// bodies is those of a state's file.
func (f found) bodies() []string {
	l := []string{baseBody(f.log.Base, f.log.BaseTerm, f.log.BaseConf, len(f.image))}
	for piece := range slices.Chunk([]byte(f.image), 4096) {
		l = append(l, pieceBody(string(piece)))
	}
	return append(append(l, f.hardBody()), entryBodies(f.log.Base+1, f.log.L)...)
}

func (f found) hardBody() string { return hardBody(f.hard.Term, f.hard.Vote, f.hard.Life) }

func entryBodies(from uint64, l []api.Entry) []string {
	var bodies []string
	for i, x := range l {
		bodies = append(bodies, entryBody(from+uint64(i), x))
	}
	return bodies
}

// end is one above the last index.
func (f found) end() uint64 { return f.log.Base + uint64(len(f.log.L)) + 1 }

// with is the state with entries from an index on.
func (f found) with(from uint64, l ...api.Entry) found {
	f.log.L = slices.Concat(f.log.L[:from-f.log.Base-1], l)
	return f
}

// later is the state one life on.
func (f found) later() found {
	f.hard.Life = max(f.hard.Life, min(f.hard.Life, 1<<63-2)+1)
	return f
}

// sameAs says whether two states are alike, where no list and an empty one are.
func (f found) sameAs(g found) bool {
	return f.hard == g.hard && f.image == g.image && f.log.Base == g.log.Base && f.log.BaseTerm == g.log.BaseTerm &&
		slices.Equal(f.log.BaseConf, g.log.BaseConf) && slices.Equal(f.log.L, g.log.L)
}

// cut is the bodies of the frames that are whole, how many bytes these have, and what is wrong behind them.
func cut(s string) ([]string, int, api.Errno) {
	var bodies []string
	for at := 0; ; {
		left := s[at:]
		if left == "" {
			return bodies, at, api.OK
		}
		if len(left) < 8 {
			return bodies, at, api.ErrShort
		}
		n := binary.BigEndian.Uint32([]byte(left))
		if n > 65536 {
			return bodies, at, api.ErrLong
		}
		if len(left)-8 < int(n) {
			return bodies, at, api.ErrShort
		}
		body := left[8 : 8+n]
		if row(body) != left[:8+n] {
			return bodies, at, api.ErrSum
		}
		bodies = append(bodies, body)
		at += 8 + int(n)
	}
}

// loose reads numbers and a text at the end, if there must be one, without a look at what is wrong.
type loose []byte

func (l *loose) num() uint64 {
	n, size := binary.Uvarint(*l)
	*l = (*l)[max(size, 0):]
	return n
}

func (l *loose) text() string {
	n := min(l.num(), uint64(len(*l)))
	s := string((*l)[:n])
	*l = (*l)[n:]
	return s
}

// int is a number that is beyond all limits, if it is great.
func (l *loose) int() int { return int(min(l.num(), 1<<40)) }

// read is what a file's bodies say, and whether the file is right.
func read(bodies []string) (found, bool) {
	if len(bodies) == 0 {
		return found{}, false
	}
	var f found
	b := loose(bodies[0])
	b.num()
	f.log.Base, f.log.BaseTerm = b.num(), b.num()
	for range min(b.num(), 100) {
		f.log.BaseConf = append(f.log.BaseConf, b.int())
	}
	size := b.int()
	if baseBody(f.log.Base, f.log.BaseTerm, f.log.BaseConf, size) != bodies[0] || !mayBe(f.log) || size > 1<<18 {
		return found{}, false
	}
	pieces := (size + 4095) / 4096
	if len(bodies) < 1+pieces {
		return found{}, false
	}
	for i, body := range bodies[1 : 1+pieces] {
		b := loose(body)
		b.num()
		piece := b.text()
		if pieceBody(piece) != body || len(piece) != min(4096, size-4096*i) {
			return found{}, false
		}
		f.image += piece
	}
	for _, body := range bodies[1+pieces:] {
		var ok bool
		if f, ok = f.behind(body); !ok {
			return found{}, false
		}
	}
	return f, true
}

// behind is the state behind a hard or an entry record, and whether that may stand there.
func (f found) behind(body string) (found, bool) {
	b := loose(body)
	if b.num() == 3 {
		h := api.Hard{Term: b.num(), Vote: b.int(), Life: b.num()}
		f.hard = h
		return f, f.hardBody() == body && h.Vote <= 5
	}
	index := b.num()
	x := api.Entry{Term: b.num(), Kind: b.int(), Data: b.text()}
	if entryBody(index, x) != body || index <= f.log.Base || index > f.end() || !mayStand(x) {
		return f, false
	}
	return f.with(index, x), true
}

// mayBe looks for a log's members among all sets of nodes.
func mayBe(g api.Log) bool {
	for set := range 1 << 5 {
		var conf []int
		for node := 1; node <= 5; node++ {
			if set>>(node-1)&1 == 1 {
				conf = append(conf, node)
			}
		}
		if slices.Equal(conf, g.BaseConf) {
			return g.Base <= 1<<62
		}
	}
	return false
}

func mayStand(l ...api.Entry) bool {
	for _, x := range l {
		if !slices.Contains([]int{1, 2, 3}, x.Kind) || len(x.Data) > 2048 {
			return false
		}
	}
	return true
}

// other is a journal by another road, on a disk of its own.
type other struct {
	disk *disk.Disk
	found
}

// first is the first error of calls that are done, each with a Sync behind it, up to that.
func (o *other) first(calls ...func() api.Errno) api.Errno {
	for _, call := range calls {
		for _, do := range []func() api.Errno{call, o.disk.Sync} {
			if e := do(); e != api.OK {
				return e
			}
		}
	}
	return api.OK
}

func (o *other) adds(bodies ...string) func() api.Errno {
	return func() api.Errno { return o.disk.Add("log", row(bodies...)) }
}

func (o *other) puts(bodies ...string) func() api.Errno {
	return func() api.Errno { return o.disk.Put("log", row(bodies...)) }
}

// open is Open; the state is turned by one that answers OK alone.
func (o *other) open() api.Errno {
	s, e := o.disk.Read("log")
	if e == api.ErrNone {
		f := found{}.later()
		if e := o.first(o.puts(found{}.bodies()...), o.adds(f.hardBody())); e != api.OK {
			return e
		}
		o.found = f
		return api.OK
	}
	if e != api.OK {
		return e
	}
	bodies, _, e := cut(s)
	if e == api.ErrShort {
		e = o.first(o.puts(bodies...))
	}
	if e != api.OK {
		return e
	}
	f, right := read(bodies)
	if !right {
		return api.ErrForm
	}
	if e := o.first(o.adds(f.later().hardBody())); e != api.OK {
		return e
	}
	o.found = f.later()
	return api.OK
}

func (o *other) save(h api.Hard) api.Errno {
	if h.Vote < 0 || h.Vote > 5 {
		return api.ErrArg
	}
	f := o.found
	f.hard.Term, f.hard.Vote = h.Term, h.Vote
	if f.hard == o.hard {
		return api.OK
	}
	return o.becomes(f, o.adds(f.hardBody()))
}

func (o *other) append(from uint64, l []api.Entry) api.Errno {
	if from <= o.log.Base || from > o.end() || !mayStand(l...) || len(l) == 0 && from != o.end() {
		return api.ErrArg
	}
	if len(l) == 0 {
		return api.OK
	}
	return o.becomes(o.with(from, l...), o.adds(entryBodies(from, l)...))
}

func (o *other) rebase(g api.Log, image string) api.Errno {
	if !mayBe(g) || !mayStand(g.L...) || len(image) > 1<<18 {
		return api.ErrArg
	}
	f := found{o.hard, g, image}
	return o.becomes(f, o.puts(f.bodies()...))
}

// becomes is the state then, if a call is OK.
func (o *other) becomes(f found, call func() api.Errno) api.Errno {
	e := o.first(call)
	if e == api.OK {
		o.found = f
	}
	return e
}

// act is a call of a journal.
type act struct {
	do    string
	hard  api.Hard
	from  uint64
	l     []api.Entry
	log   api.Log
	image string
}

func save(term uint64, vote int) act {
	return act{do: "Save", hard: api.Hard{Term: term, Vote: vote, Life: 77}}
}

func add(from uint64, l ...api.Entry) act { return act{do: "Append", from: from, l: l} }

func rebase(g api.Log, image string) act { return act{do: "Rebase", log: g, image: image} }

func (a act) on(j *journal.Journal) api.Errno {
	switch a.do {
	case "Save":
		return j.Save(a.hard)
	case "Append":
		return j.Append(a.from, a.l)
	}
	return j.Rebase(a.log, a.image)
}

func (a act) by(o *other) api.Errno {
	switch a.do {
	case "Save":
		return o.save(a.hard)
	case "Append":
		return o.append(a.from, a.l)
	}
	return o.rebase(a.log, a.image)
}

// entry is one of a log.
func entry(term uint64, kind int, data string) api.Entry {
	return api.Entry{Term: term, Kind: kind, Data: data}
}

// some is so many entries, all others.
func some(n int) []api.Entry {
	var l []api.Entry
	for i := range n {
		l = append(l, entry(uint64(i/3), 1+i%3, strings.Repeat(string([]byte{byte(i)}), i%7)))
	}
	return l
}

// noise is so many bytes, the same at every run.
func noise(n int) string {
	b := make([]byte, n)
	for i := range b {
		b[i] = byte(i*i>>3 + i)
	}
	return string(b)
}

// newDisk is a disk of that capacity, with a file, if it isn't none.
func newDisk(t *testing.T, capacity int, files ...string) *disk.Disk {
	t.Helper()
	d, e := disk.New(capacity)
	for _, s := range files {
		e = max(e, d.Put("log", s), d.Sync())
	}
	if e != api.OK {
		t.Fatalf("no disk: %d", e)
	}
	return d
}

// open is the journal of a disk that opens.
func open(t *testing.T, d *disk.Disk) *journal.Journal {
	t.Helper()
	j, e := journal.Open(d)
	if j == nil || e != api.OK {
		t.Fatalf("Open: %v, %d", j, e)
	}
	return j
}

// begun is a journal, and its other, on disks to which all that was done, each OK.
func begun(t *testing.T, capacity int, acts ...act) (*journal.Journal, *disk.Disk, *other) {
	t.Helper()
	d, o := newDisk(t, capacity), &other{disk: newDisk(t, capacity)}
	j := open(t, d)
	o.open()
	for _, a := range acts {
		does(t, j, a, api.OK)
		a.by(o)
	}
	agrees(t, j, d, o)
	return j, d, o
}

// does checks what a call answers.
func does(t *testing.T, j *journal.Journal, a act, want api.Errno) {
	t.Helper()
	if e := a.on(j); e != want {
		t.Errorf("%s: %d, must be %d", a.do, e, want)
	}
}

// holds checks what a journal tells.
func holds(t *testing.T, j *journal.Journal, want found) {
	t.Helper()
	if got := (found{j.Hard(), j.Log(), j.Image()}); !got.sameAs(want) {
		t.Errorf("the state is %.200v, must be %.200v", got, want)
	}
}

// lies checks all that lies on a disk with power.
func lies(t *testing.T, d *disk.Disk, want string) {
	t.Helper()
	s, e := d.Read("log")
	if s != want || e != api.OK || len(d.Names()) != 1 || d.Pending() != 0 {
		t.Errorf("the file is %x (%d), %d, of %q, %d pending; must be %x (%d)", short(s), len(s), e, d.Names(), d.Pending(), short(want), len(want))
	}
}

func short(s string) string { return s[:min(len(s), 200)] }

// likewise checks that two disks are the same: as they are seen, as they last, in what is pending, in their power.
func likewise(t *testing.T, d, want *disk.Disk) {
	t.Helper()
	if d.Off() != want.Off() || d.Used() != want.Used() || d.Pending() != want.Pending() || !slices.Equal(d.Names(), want.Names()) {
		t.Fatalf("Off %t, Used %d, Pending %d, %q; must be %t, %d, %d, %q", d.Off(), d.Used(), d.Pending(), d.Names(), want.Off(), want.Used(), want.Pending(), want.Names())
	}
	for k := range map[int]int{0: 0, d.Pending() / 2: 0, d.Pending(): 0} {
		a, b := d.Twin(), want.Twin()
		a.Crash(k)
		b.Crash(k)
		s, e := a.Read("log")
		if also, no := b.Read("log"); s != also || e != no {
			t.Fatalf("behind Crash(%d): %x (%d), %d; must be %x (%d), %d", k, short(s), len(s), e, short(also), len(also), no)
		}
	}
}

// agrees checks a journal and its disk against the other road.
func agrees(t *testing.T, j *journal.Journal, d *disk.Disk, o *other) {
	t.Helper()
	holds(t, j, o.found)
	likewise(t, d, o.disk)
}

// agreesDo does something to both, and checks both then.
func agreesDo(t *testing.T, j *journal.Journal, d *disk.Disk, o *other, a act) api.Errno {
	t.Helper()
	e := a.on(j)
	if want := a.by(o); e != want {
		t.Fatalf("%s from %d, of %d, of %d bytes: %d, must be %d", a.do, a.from, len(a.l)+len(a.log.L), len(a.image), e, want)
	}
	agrees(t, j, d, o)
	return e
}

// agreesOpen opens a disk and a twin of it, and checks both then.
func agreesOpen(t *testing.T, d *disk.Disk) (*journal.Journal, *other, api.Errno) {
	t.Helper()
	o := &other{disk: d.Twin()}
	j, e := journal.Open(d)
	if want := o.open(); e != want || (j == nil) != (e != api.OK) {
		t.Fatalf("Open: %v, %d; must be %d", j, e, want)
	}
	if e != api.OK {
		likewise(t, d, o.disk)
	} else {
		agrees(t, j, d, o)
	}
	return j, o, e
}

// greats is numbers at the ends of all kinds.
func greats() []uint64 {
	m := map[uint64]int{0: 0, math.MaxUint64: 0}
	for bits := range 64 {
		for _, n := range []uint64{1<<bits - 1, 1 << bits, 1<<bits + 1} {
			m[n] = 0
		}
	}
	return slices.Sorted(maps.Keys(m))
}
