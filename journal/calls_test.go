package journal_test

import (
	"math"
	"slices"
	"strings"
	"testing"

	"posthorn/api"
	"posthorn/disk"
	"posthorn/journal"
)

// history is what was done to the journals of these tests: a base, an image, entries of which some were written over.
func history() []act {
	g := api.Log{Base: 10, BaseTerm: 2, BaseConf: []int{1, 3}, L: some(3)}
	return []act{save(3, 1), rebase(g, "horn"), add(13, some(4)...), save(4, 2)}
}

// TestSave: P13.3, what may be a vote, and what is written.
func TestSave(t *testing.T) {
	j, d, o := begun(t, 2000, history()...)
	for _, vote := range []int{-1, -2, 6, 7, 1 << 32, 1<<32 + 1, math.MinInt, math.MaxInt} {
		for _, term := range []uint64{0, 4, 5, 1<<64 - 1} {
			if e := agreesDo(t, j, d, o, save(term, vote)); e != api.ErrArg {
				t.Errorf("Save(%d, %d): %d", term, vote, e)
			}
		}
	}
	for _, term := range []uint64{4, 3, 0, 5, 1<<63 - 1, 1 << 63, 1<<64 - 1} { // one that falls, too
		for vote := range 6 {
			if e := agreesDo(t, j, d, o, save(term, vote)); e != api.OK {
				t.Errorf("Save(%d, %d): %d", term, vote, e)
			}
			if want := (api.Hard{Term: term, Vote: vote, Life: 1}); j.Hard() != want {
				t.Errorf("Hard %v, must be %v", j.Hard(), want)
			}
		}
	}
}

// TestSaveLife: P13.3, the life is the one that is there, whatever is handed in.
func TestSaveLife(t *testing.T) {
	j, d, o := begun(t, 9000)
	for i, life := range greats() {
		a := act{do: "Save", hard: api.Hard{Term: uint64(i % 2), Vote: i / 2 % 2, Life: life}}
		if e := agreesDo(t, j, d, o, a); e != api.OK || j.Hard().Life != 1 {
			t.Errorf("%d, %v", e, j.Hard())
		}
	}
	j = open(t, d)
	does(t, j, act{do: "Save", hard: api.Hard{Term: 9, Vote: 1, Life: 0}}, api.OK)
	holds(t, j, found{hard: api.Hard{Term: 9, Vote: 1, Life: 2}})
	holds(t, open(t, d), found{hard: api.Hard{Term: 9, Vote: 1, Life: 3}})
}

// TestSaveAgain: P13.3, nothing is written, if term and vote are there: without room and power, too.
func TestSaveAgain(t *testing.T) {
	j, d, o := begun(t, 2000, history()...)
	s, _ := d.Read("log")
	for _, life := range []uint64{0, 1, 2, 1<<64 - 1} {
		does(t, j, act{do: "Save", hard: api.Hard{Term: 4, Vote: 2, Life: life}}, api.OK)
		lies(t, d, s)
	}
	d.Put("pending", "x")
	does(t, j, save(4, 2), api.OK)
	if d.Pending() != 1 {
		t.Error("a Sync")
	}
	d.Put("full", strings.Repeat("x", 2000-d.Used()))
	does(t, j, save(4, 2), api.OK)
	does(t, j, save(4, 3), api.ErrFull)
	does(t, j, save(5, 2), api.ErrFull)
	does(t, j, save(4, 6), api.ErrArg)
	d.Fuse(0)
	does(t, j, save(4, 2), api.OK)
	does(t, j, save(4, 3), api.ErrPower)
	does(t, j, save(5, 2), api.ErrPower)
	does(t, j, save(4, -1), api.ErrArg)
	holds(t, j, o.found)
}

// TestAppend: P13.3, from each index there is, and from others.
func TestAppend(t *testing.T) {
	x := []api.Entry{entry(9, 1, "x"), entry(8, 2, ""), entry(7, 3, "yz")}
	for n := range 4 {
		for from := uint64(0); from < 25; from++ {
			j, d, o := begun(t, 2000, history()...) // the entries 11 to 16
			want := api.ErrArg
			if from == 17 || from >= 11 && from <= 16 && n > 0 {
				want = api.OK
			}
			if e := agreesDo(t, j, d, o, add(from, x[:n]...)); e != want {
				t.Errorf("%d from %d: %d", n, from, e)
			}
			if want == api.OK && n > 0 {
				f := o.found
				f.log.L = slices.Concat(append(some(2), some(4)...)[:from-11], x[:n])
				holds(t, j, f)
			}
		}
	}
	j, d, o := begun(t, 2000, history()...)
	for _, from := range greats() {
		if from > 17 {
			for n := range 4 {
				agreesDo(t, j, d, o, add(from, x[:n]...))
			}
		}
	}
}

// TestAppendFirst: P13.3, to a log that has nothing, and behind the greatest base.
func TestAppendFirst(t *testing.T) {
	for _, base := range []uint64{0, 1, 1<<32 - 1, 1<<62 - 1, 1 << 62} {
		g := api.Log{Base: base}
		for _, from := range append(greats(), base-1, base+2, base+3) {
			j, d, o := begun(t, 1000, rebase(g, ""))
			want := api.ErrArg
			if from == base+1 {
				want = api.OK
			}
			if e := agreesDo(t, j, d, o, add(from)); e != want {
				t.Errorf("none from %d, behind %d: %d", from, base, e)
			}
			if e := agreesDo(t, j, d, o, add(from, some(2)...)); e != want {
				t.Errorf("two from %d, behind %d: %d", from, base, e)
			}
		}
	}
}

// TestAppendNone: P13.3, of an empty list nothing is done, and no disk asked.
func TestAppendNone(t *testing.T) {
	j, d, o := begun(t, 2000, history()...)
	d.Put("pending", "x")
	for _, off := range []bool{false, true} {
		if off {
			d.Fuse(0)
		}
		for _, l := range [][]api.Entry{nil, {}} {
			if j.Append(17, l) != api.OK || j.Append(16, l) != api.ErrArg || j.Append(11, l) != api.ErrArg || j.Append(18, l) != api.ErrArg || j.Append(10, l) != api.ErrArg {
				t.Error("an empty list")
			}
		}
		if d.Pending() != 1 {
			t.Error("a Sync")
		}
	}
	holds(t, j, o.found)
}

// unfit is entries that may not be.
func unfit() map[string]api.Entry {
	return map[string]api.Entry{
		"a kind 0":              entry(1, 0, "x"),
		"a kind 4":              entry(1, 4, "x"),
		"a kind -1":             entry(1, -1, "x"),
		"a kind of 2^32 + 1":    entry(1, 1<<32+1, "x"),
		"the least kind":        entry(1, math.MinInt, "x"),
		"the greatest kind":     entry(1, math.MaxInt, "x"),
		"data of 2049 bytes":    entry(1, 1, noise(2049)),
		"data of 2^16 bytes":    entry(1, 2, noise(1<<16)),
		"data of 2^20 bytes":    entry(1, 3, strings.Repeat("x", 1<<20)),
		"neither kind nor data": entry(1, 9, noise(3000)),
	}
}

// TestAppendUnfit: P13.3, an entry that may not be, wherever it stands: nothing is written.
func TestAppendUnfit(t *testing.T) {
	for what, x := range unfit() {
		for at := range 4 {
			j, d, o := begun(t, 2000, history()...)
			for _, from := range []uint64{11, 17} {
				if e := agreesDo(t, j, d, o, add(from, slices.Insert(some(3), at, x)...)); e != api.ErrArg {
					t.Errorf("%s at %d: %d", what, at, e)
				}
			}
			d.Fuse(0)
			does(t, j, add(17, slices.Insert(some(3), at, x)...), api.ErrArg)
		}
	}
}

// TestAppendFit: P13.3, entries of all kinds, of all lengths at the edges, of all terms: those that fall, too.
func TestAppendFit(t *testing.T) {
	j, d, o := begun(t, api.MaxDisk)
	for kind := 1; kind <= 3; kind++ {
		for _, n := range []int{0, 1, 127, 128, 2047, 2048} {
			agreesDo(t, j, d, o, add(o.end(), entry(uint64(n), kind, noise(n))))
		}
	}
	for _, term := range greats() {
		agreesDo(t, j, d, o, add(o.end(), entry(term, 2, ""), entry(0, 2, "")))
	}
	if n := len(j.Log().L); n != 3*6+2*len(greats()) {
		t.Errorf("%d entries", n)
	}
	_, again, _ := agreesOpen(t, d)
	holds(t, j, found{log: again.log, hard: o.hard})
}

// TestAppendMany: P13.3, more than MaxLog entries, in one Add.
func TestAppendMany(t *testing.T) {
	j, d, o := begun(t, api.MaxDisk)
	d.Fuse(2)
	o.disk.Fuse(2)
	agreesDo(t, j, d, o, add(1, some(2000)...))
	d.Fuse(-1)
	o.disk.Fuse(-1)
	agreesDo(t, j, d, o, add(2, some(3000)...))
	agreesDo(t, j, d, o, add(3001, some(3)...))
	agreesOpen(t, d)
}

// TestRebase: P13.3, logs and images that may be, one behind the other; Hard stays.
func TestRebase(t *testing.T) {
	j, d, o := begun(t, api.MaxDisk, history()...)
	confs := [][]int{nil, {}, {1}, {5}, {1, 5}, {2, 3, 4}, {1, 2, 3, 4, 5}}
	images := []string{"", "x", noise(4095), noise(4096), noise(4097), noise(8192), noise(8193), noise(1<<18 - 1), noise(1 << 18)}
	logs := [][]api.Entry{nil, {}, some(1), some(20), {entry(1<<64-1, 3, noise(2048)), entry(0, 1, "")}}
	for i, base := range append(greats(), 7, 1<<62-1, 1<<62) {
		if base > 1<<62 {
			continue
		}
		g := api.Log{Base: base, BaseTerm: greats()[i%len(greats())], BaseConf: confs[i%len(confs)], L: logs[i%len(logs)]}
		image := images[i%len(images)]
		if e := agreesDo(t, j, d, o, rebase(g, image)); e != api.OK {
			t.Fatalf("Rebase at %d: %d", base, e)
		}
		holds(t, j, found{api.Hard{Term: 4, Vote: 2, Life: 1}, g, image})
		if e := agreesDo(t, j, d, o, add(o.end(), some(2)...)); e != api.OK {
			t.Fatalf("Append behind %d: %d", base, e)
		}
		agreesOpen(t, d.Twin())
	}
}

// TestRebaseUnfit: P13.3, what may not be: nothing is written.
func TestRebaseUnfit(t *testing.T) {
	right := api.Log{Base: 5, BaseTerm: 2, BaseConf: []int{1, 2}, L: some(2)}
	type args struct {
		log   api.Log
		image string
	}
	all := map[string]args{
		"an image of 2^18 + 1": {right, noise(1<<18 + 1)},
		"an image of 2^20":     {right, strings.Repeat("x", 1<<20)},
	}
	for _, base := range append(greats(), 1<<62+1) {
		if base > 1<<62 {
			g := right
			g.Base = base
			all["a base of "+num(base)] = args{g, ""}
		}
	}
	for i, conf := range [][]int{{0}, {6}, {-1}, {1, 1}, {2, 1}, {1, 2, 2}, {0, 1}, {1, 6}, {5, 4, 3}, {1, 2, 3, 4, 5, 5}, {1, 2, 3, 4, 5, 6}, {0, 1, 2, 3, 4, 5}, {1<<32 + 1}, {math.MinInt}, {math.MaxInt}, {math.MinInt, 1}, make([]int, 7), make([]int, 1000)} {
		g := right
		g.BaseConf = conf
		all["members "+num(uint64(i))] = args{g, ""}
	}
	for what, x := range unfit() {
		for at := range 3 {
			g := right
			g.L = slices.Insert(some(2), at, x)
			all[what+num(uint64(at))] = args{g, ""}
		}
	}
	for what, a := range all {
		j, d, o := begun(t, 2000, history()...)
		if e := agreesDo(t, j, d, o, rebase(a.log, a.image)); e != api.ErrArg {
			t.Errorf("%s: %d", what, e)
		}
		d.Fuse(0)
		does(t, j, rebase(a.log, a.image), api.ErrArg)
	}
}

// TestRebaseMakesRoom: P13.3, it is one Put: the old file's room is the new one's.
func TestRebaseMakesRoom(t *testing.T) {
	j, d, o := begun(t, 1000, add(1, entry(1, 1, noise(900))))
	if e := agreesDo(t, j, d, o, add(2, entry(1, 1, noise(100)))); e != api.ErrFull {
		t.Errorf("no room: %d", e)
	}
	if e := agreesDo(t, j, d, o, rebase(api.Log{L: []api.Entry{entry(1, 1, noise(910))}}, "")); e != api.OK {
		t.Errorf("room: %d", e)
	}
	if e := agreesDo(t, j, d, o, rebase(api.Log{Base: 1}, "")); e != api.OK {
		t.Errorf("room: %d", e)
	}
	if e := agreesDo(t, j, d, o, add(2, entry(1, 1, noise(900)))); e != api.OK {
		t.Errorf("room behind it: %d", e)
	}
	if e := agreesDo(t, j, d, o, rebase(api.Log{Base: 1}, noise(1000))); e != api.ErrFull {
		t.Errorf("too great an image: %d", e)
	}
}

// calls is one call of each kind that is OK where there is room and power.
func calls() []act {
	g := api.Log{Base: 12, BaseTerm: 3, BaseConf: []int{2}, L: some(5)}
	return []act{save(9, 3), add(12, some(2)...), add(17, entry(9, 3, "z")), add(17, some(9)...), rebase(g, noise(4100)), rebase(api.Log{}, "")}
}

// TestWholeDisk: P13.4, files as great as the greatest disk, and greater ones by less than a record, whose beginnings would fit.
func TestWholeDisk(t *testing.T) {
	if testing.Short() {
		t.Skip("it takes seconds")
	}
	f := found{hard: api.Hard{Life: 1}, log: api.Log{L: slices.Repeat([]api.Entry{entry(1, 1, noise(1000))}, 1032)}}
	ahead := len(row(f.bodies()...))
	left := api.MaxDisk - ahead
	for n := left - 45; n < left+5; n++ { // bytes of an entry, with one more behind it, or none
		for _, behind := range [][]api.Entry{nil, {entry(1, 1, "")}} {
			l := append([]api.Entry{entry(1, 1, noise(n))}, behind...)
			needs := ahead + len(row(entryBodies(f.end(), l)...))
			want := api.OK
			if needs > api.MaxDisk {
				want = api.ErrFull
			}
			d := newDisk(t, api.MaxDisk)
			j := open(t, d)
			does(t, j, rebase(f.with(f.end(), l...).log, ""), want)
			if want == api.OK && d.Used() != needs {
				t.Errorf("%d bytes, must be %d", d.Used(), needs)
			}
		}
	}
}

// TestPower: P13.4, the power goes ahead of each call of the disk; then the state is as it was.
func TestPower(t *testing.T) {
	for _, a := range calls() {
		for n := range 4 {
			j, d, o := begun(t, 9000, history()...)
			d.Fuse(n)
			o.disk.Fuse(n)
			was := o.found
			e := agreesDo(t, j, d, o, a)
			if (e == api.ErrPower) != (n < 2) || d.Off() != (n <= 2) {
				t.Errorf("%s, Fuse(%d): %d, off %t", a.do, n, e, d.Off())
			}
			if n < 2 {
				holds(t, j, was)
				for _, b := range calls() {
					if e := agreesDo(t, j, d, o, b); e != api.ErrPower {
						t.Errorf("%s behind %s: %d", b.do, a.do, e)
					}
				}
				holds(t, j, was)
			}
		}
	}
}

// TestFull: P13.4, with each room up to what is needed: then the state is as it was, and goes on.
func TestFull(t *testing.T) {
	for _, a := range calls() {
		for capacity := 0; ; capacity += 7 {
			j, d, o := begun(t, 9000, history()...)
			filled := strings.Repeat("x", max(9000-capacity-d.Used(), 0))
			for _, x := range []*disk.Disk{d, o.disk} {
				x.Put("filled", filled)
				x.Sync()
			}
			was := o.found
			if agreesDo(t, j, d, o, a) == api.OK {
				break
			}
			holds(t, j, was)
			d.Drop("filled")
			o.disk.Drop("filled")
			if e := agreesDo(t, j, d, o, a); e != api.OK {
				t.Fatalf("%s with room: %d", a.do, e)
			}
			agreesOpen(t, d)
		}
	}
}

// TestJustRoom: P13.4, a disk that has just room, and one that has a byte less.
func TestJustRoom(t *testing.T) {
	for _, a := range calls() {
		_, d, o := begun(t, 9000, history()...)
		was := d.Used()
		if e := a.by(o); e != api.OK {
			t.Fatal(e)
		}
		needs := o.disk.Used()
		for less, want := range []api.Errno{api.OK, api.ErrFull} {
			if needs-less < was {
				continue // it makes room
			}
			j, d, o := begun(t, needs-less, history()...)
			if e := agreesDo(t, j, d, o, a); e != want {
				t.Errorf("%s, %d less: %d", a.do, less, e)
			}
		}
	}
}

// TestNil: P13.4, of no journal.
func TestNil(t *testing.T) {
	var j *journal.Journal
	holds(t, j, found{})
	for _, a := range append(calls(), save(0, 0), add(1), add(0), rebase(api.Log{Base: 1 << 63}, ""), save(0, 9)) {
		does(t, j, a, api.ErrArg)
	}
	holds(t, j, found{})
}
