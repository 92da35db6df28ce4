package journal_test

import (
	"math/rand"
	"slices"
	"testing"

	"posthorn/api"
	"posthorn/disk"
	"posthorn/journal"
)

// mayFind is the states that may be found behind a crash within a call: as it was, as the call makes it, of an Append with a beginning of its entries.
func mayFind(was, made found, a act) []found {
	l := []found{was}
	if a.do == "Append" {
		for n := range len(a.l) {
			l = append(l, was.with(a.from, a.l[:n+1]...))
		}
	}
	return append(l, made)
}

// finds checks that Open finds one of some states, one life on.
func finds(t *testing.T, d *disk.Disk, states ...found) {
	t.Helper()
	j, _, e := agreesOpen(t, d)
	if e != api.OK {
		t.Fatalf("Open: %d", e)
	}
	got := found{j.Hard(), j.Log(), j.Image()}
	if !slices.ContainsFunc(states, func(f found) bool { return got.sameAs(f.later()) }) {
		t.Fatalf("found %.200v", got)
	}
}

// TestTorn: P13.6 and P13.7, each call, with the power gone ahead of each of its calls of the disk, and each crash then.
func TestTorn(t *testing.T) {
	for _, a := range calls() {
		for n := range 4 {
			most := 1
			for k := 0; k < most; k++ {
				j, d, o := begun(t, 9000, history()...)
				was := o.found
				a.by(o)
				d.Fuse(n)
				e := a.on(j)
				most = d.Pending() + 1
				d.Crash(k)
				if e == api.OK || n == 1 && k == most-1 { // all of it was kept
					finds(t, d, o.found)
				} else {
					finds(t, d, mayFind(was, o.found, a)...)
				}
			}
		}
	}
}

// TestTornAt: P13.6, just the entries whose bytes were kept are found.
func TestTornAt(t *testing.T) {
	l := some(6)
	ends := []int{0}
	for i := range l {
		ends = append(ends, len(row(entryBodies(15, l[:i+1])...)))
	}
	for k := range ends[len(ends)-1] + 1 {
		j, d, o := begun(t, 9000, history()...)
		d.Fuse(1)
		does(t, j, add(15, l...), api.ErrPower)
		holds(t, j, o.found)
		d.Crash(k)
		n, _ := slices.BinarySearch(ends, k+1)
		want := o.found
		if n > 1 {
			want = want.with(15, l[:n-1]...)
		}
		holds(t, open(t, d), want.later())
	}
}

// TestTornAgain: P13.6, crashes of Open itself, one behind the other: nothing is lost, and nothing comes back.
func TestTornAgain(t *testing.T) {
	l := some(3)
	cut := len(row(entryBodies(17, l)...)) - 3
	for n := range 5 {
		for more := range 5 {
			j, d, o := begun(t, 9000, history()...)
			d.Fuse(1)
			does(t, j, add(17, l...), api.ErrPower)
			d.Crash(cut)
			want := o.found.with(17, l[:2]...)
			for _, fuse := range []int{n, more} {
				d.Fuse(fuse)
				if _, _, e := agreesOpen(t, d); e == api.OK {
					want = want.later()
				}
				steps := d.Pending()
				if steps == 12 { // a whole hard record that no Sync followed
					steps--
				}
				d.Crash(steps)
			}
			finds(t, d, want)
		}
	}
}

// TestKept: P13.5, what calls that answered OK have made is found behind every crash.
func TestKept(t *testing.T) {
	_, d, o := begun(t, 9000)
	finds(t, d.Twin(), o.found)
	for i := range 40 {
		a := append(history(), calls()...)[i*7%10]
		j, _, e := agreesOpen(t, d)
		if e != api.OK {
			t.Fatal(e)
		}
		o.hard.Life++
		if want := a.by(o); a.on(j) != want {
			t.Fatalf("%s", a.do)
		}
		d.Crash(0)
		d.Put("other", "pending")
		d.Add("other", noise(i))
		for k := range d.Pending() + 1 {
			twin := d.Twin()
			twin.Crash(k)
			finds(t, twin, o.found)
		}
		d.Crash(i % d.Pending())
	}
}

// dice is calls by dice, with logs, indices and entries near to the edges.
type dice struct{ *rand.Rand }

func (r dice) entries() []api.Entry {
	l := some(r.Intn(5))
	for i := range l {
		l[i].Term = uint64(r.Intn(4))
		l[i].Kind += r.Intn(30) / 29
	}
	if len(l) > 0 && r.Intn(20) == 0 {
		l[r.Intn(len(l))].Data = noise(2040 + r.Intn(10))
	}
	return l
}

func (r dice) log() api.Log {
	g := api.Log{Base: uint64(r.Intn(6)), BaseTerm: uint64(r.Intn(4)), L: r.entries()}
	if r.Intn(20) == 0 {
		g.Base = 1<<62 - 1 + uint64(r.Intn(3))
	}
	for node := 1; node <= 5; node++ {
		if r.Intn(2) == 0 {
			g.BaseConf = append(g.BaseConf, node+r.Intn(30)/29)
		}
	}
	return g
}

func (r dice) image() string {
	most := []int{1, 1, 10, 10, 10, 300, 300, 5000, 10000}
	return noise(r.Intn(most[r.Intn(len(most))]))
}

func (r dice) call(o *other) act {
	switch r.Intn(8) {
	case 0, 1, 2:
		return save(uint64(r.Intn(3)), r.Intn(9)-1)
	case 3:
		return rebase(r.log(), r.image())
	}
	return add(o.log.Base+uint64(r.Intn(int(o.end()-o.log.Base)+2)), r.entries()...)
}

// TestDice: P13.1 to P13.7, long rows of calls, power that goes, crashes, Opens: as the other road has it, and with all that was kept.
func TestDice(t *testing.T) {
	rows := 1500
	if testing.Short() {
		rows = 100
	}
	for seed := range rows {
		r := dice{rand.New(rand.NewSource(int64(seed)))}
		d := newDisk(t, []int{20, 40, 60, 100, 300, 3000, 3000, 20000, 20000}[r.Intn(9)])
		j, o, e := agreesOpen(t, d)
		if e != api.OK {
			continue
		}
		for range 60 {
			if r.Intn(5) == 0 {
				n := r.Intn(4)
				d.Fuse(n)
				o.disk.Fuse(n)
			}
			a, was := r.call(o), o.found
			e := agreesDo(t, j, d, o, a)
			if e != api.ErrPower && r.Intn(4) > 0 {
				continue
			}
			states := []found{o.found}
			if e == api.ErrPower {
				then := other{newDisk(t, api.MaxDisk), was} // one with power
				a.by(&then)
				states = mayFind(was, then.found, a)
			}
			d.Crash(r.Intn(d.Pending() + 1))
			j, o = reopens(t, d, states)
			if j == nil {
				break
			}
		}
	}
}

// reopens opens a disk behind a crash, and finds one of some states; none, if there is no room.
func reopens(t *testing.T, d *disk.Disk, states []found) (*journal.Journal, *other) {
	t.Helper()
	j, o, e := agreesOpen(t, d)
	if e == api.ErrFull {
		return nil, nil
	}
	if e != api.OK {
		t.Fatalf("Open: %d", e)
	}
	if !slices.ContainsFunc(states, func(f found) bool { return o.sameAs(f.later()) }) {
		t.Fatalf("found %.200v", o.found)
	}
	return j, o
}

// TestPowerBack: P13.4, the state is as it was where the power comes back without a crash, too.
func TestPowerBack(t *testing.T) {
	for _, a := range calls() {
		for _, b := range calls() {
			for n := range 2 {
				j, d, o := begun(t, 9000, history()...)
				d.Fuse(n)
				o.disk.Fuse(n)
				agreesDo(t, j, d, o, a)
				d.Fuse(-1)
				o.disk.Fuse(-1)
				agreesDo(t, j, d, o, b)
			}
		}
	}
}

// TestAllRows: P13.1, all short rows of records, right ones and wrong ones, by the other road.
func TestAllRows(t *testing.T) {
	bodies := []string{
		baseBody(0, 0, nil, 0), baseBody(2, 1, []int{1, 4}, 1), baseBody(1, 1, []int{2}, 4097),
		pieceBody("x"), pieceBody(noise(4096)),
		hardBody(1, 2, 3), hardBody(1, 6, 3),
		entryBody(1, entry(1, 1, "")), entryBody(2, entry(1, 2, "y")), entryBody(3, entry(1, 3, "z")),
	}
	most := 5
	if testing.Short() {
		most = 3
	}
	count := 0
	var try func(l []string, left int)
	try = func(l []string, left int) {
		d := newDisk(t, api.MaxDisk, row(l...))
		_, _, e := agreesOpen(t, d)
		if e == api.OK {
			count++
		}
		for _, body := range bodies {
			if left > 0 {
				try(append(slices.Clip(l), body), left-1)
			}
		}
	}
	try(nil, 3)
	for _, base := range bodies[:3] { // more can be right behind one
		try([]string{base}, most-1)
	}
	if count < 1<<most {
		t.Errorf("only %d were right", count)
	}
}

// TestTurned: P13.1, files whose records were turned somewhere, by the other road.
func TestTurned(t *testing.T) {
	rows := 20000
	if testing.Short() {
		rows = 1000
	}
	count := map[api.Errno]int{}
	for seed := range rows {
		r := dice{rand.New(rand.NewSource(int64(seed)))}
		f := found{api.Hard{Term: uint64(r.Intn(300)), Vote: r.Intn(6), Life: uint64(r.Intn(300))}, api.Log{Base: 126 + uint64(r.Intn(5)), BaseConf: []int{2, 4}, L: some(r.Intn(4))}, noise(r.Intn(4))}
		bodies := append(f.bodies(), f.hardBody())
		for range r.Intn(3) {
			i := r.Intn(len(bodies))
			b := []byte(bodies[i])
			at := 0
			if len(b) > 0 {
				at = r.Intn(len(b))
			}
			switch r.Intn(6) {
			case 0:
				b = slices.Insert(b, at, byte(r.Intn(8)))
			case 1:
				b = b[:at]
			case 2:
				bodies = slices.Delete(bodies, i, i+1)
				if len(bodies) == 0 {
					bodies = []string{""}
				}
				continue
			case 3:
				bodies = slices.Insert(bodies, i, string(b))
			default:
				if len(b) > 0 {
					b[at] += byte(1 + r.Intn(3) - 2)
				}
			}
			bodies[i] = string(b)
		}
		s := row(bodies...)
		if r.Intn(4) == 0 {
			s = s[:r.Intn(len(s)+1)]
		}
		d := newDisk(t, api.MaxDisk, s)
		_, _, e := agreesOpen(t, d)
		count[e]++
	}
	if count[api.OK] < rows/10 || count[api.ErrForm] < rows/10 {
		t.Error(count)
	}
}
