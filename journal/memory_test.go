package journal_test

import (
	"runtime"
	"slices"
	"strings"
	"testing"
	"time"
	"unsafe"

	"posthorn/api"
	"posthorn/disk"
	"posthorn/journal"
)

// lent is a state in memory that is made anew each time.
func lent() found {
	return found{
		hard:  api.Hard{Term: 1, Vote: 2, Life: 1},
		log:   api.Log{Base: 3, BaseTerm: 1, BaseConf: []int{1, 3, 5}, L: []api.Entry{entry(1, 1, noise(9)), entry(2, 2, noise(10)), entry(2, 3, noise(11))}},
		image: noise(20),
	}
}

// turn turns a text's memory.
func turn(s string) {
	b := unsafe.Slice(unsafe.StringData(s), len(s))
	for i := range b {
		b[i] ^= 1
	}
}

// TestKeepsNone: what was handed in is neither turned nor kept, spare room included: its memory may hold other things later.
func TestKeepsNone(t *testing.T) {
	for n := range 4 { // so many entries, the others are spare room
		f := lent()
		for i, x := range f.log.L {
			f.log.L[i].Data = string([]byte(x.Data)) + "."
		}
		f.image = string([]byte(f.image)) + "."
		given, conf := f.log.L, f.log.BaseConf
		f.log.L, f.log.BaseConf = given[:n], conf[:2]
		want := lent()
		for i := range want.log.L {
			want.log.L[i].Data += "."
		}
		want.image += "."
		want.log.L, want.log.BaseConf = want.log.L[:n], []int{1, 3}
		d := newDisk(t, 2000)
		j := open(t, d)
		does(t, j, save(1, 2), api.OK)
		does(t, j, rebase(f.log, f.image), api.OK)
		does(t, j, add(want.end(), given[:n]...), api.OK)
		want = want.with(want.end(), want.log.L...)
		for range 2 {
			does(t, j, add(want.end(), entry(9, 1, "z")), api.OK)
			want = want.with(want.end(), entry(9, 1, "z"))
			holds(t, j, want)
			all := lent()
			for i, x := range all.log.L {
				if x.Data += "."; given[i] != x {
					t.Errorf("%d of %d: an entry was turned: %v", i, n, given[i])
				}
			}
			if !slices.Equal(conf, all.log.BaseConf) || f.image != all.image+"." {
				t.Error("members or an image were turned")
			}
		}
		turn(f.image)
		clear(conf)
		for i, x := range given {
			turn(x.Data)
			given[i] = api.Entry{}
		}
		holds(t, j, want)
		does(t, j, save(3, 4), api.OK)
		want.hard = api.Hard{Term: 3, Vote: 4, Life: 1}
		holds(t, open(t, d), want.later())
	}
}

// TestTellsNew: P13.2, what is told has memory of its own: it may be turned, and nobody knows.
func TestTellsNew(t *testing.T) {
	d := newDisk(t, 2000)
	j := open(t, d)
	does(t, j, rebase(lent().log, lent().image), api.OK)
	does(t, j, save(1, 2), api.OK)
	for life := range uint64(3) { // of one that was opened, too
		want := lent()
		want.hard.Life += life
		for range 2 {
			g, also, image, again := j.Log(), j.Log(), j.Image(), j.Image()
			turn(image)
			for i := range g.L {
				turn(g.L[i].Data)
				g.L[i] = api.Entry{}
			}
			clear(g.L[:cap(g.L)])
			clear(g.BaseConf[:cap(g.BaseConf)])
			holds(t, j, want)
			if !(found{want.hard, also, again}).sameAs(want) {
				t.Error("two answers share memory")
			}
		}
		j = open(t, d)
	}
}

// inUse is how many bytes are in use.
func inUse() int64 {
	var m runtime.MemStats
	runtime.GC()
	runtime.GC()
	runtime.ReadMemStats(&m)
	return int64(m.HeapAlloc)
}

// TestKeepsLittle: what is gone of a state isn't kept, by the memory that is in use.
func TestKeepsLittle(t *testing.T) {
	var js []*journal.Journal
	before := inUse()
	for range 50 {
		d := newDisk(t, api.MaxDisk)
		j := open(t, d)
		l := slices.Repeat([]api.Entry{entry(1, 1, noise(2048))}, 100)
		does(t, j, rebase(api.Log{Base: 1, BaseConf: []int{1}}, noise(1<<18)), api.OK)
		does(t, j, add(2, l...), api.OK)
		does(t, j, add(2, l[:1]...), api.OK)
		does(t, j, rebase(api.Log{Base: 1, BaseConf: make([]int, 0, 1<<16), L: make([]api.Entry, 0, 1<<16)}, ""), api.OK)
		js = append(js, j)
		j = open(t, d)
		does(t, j, add(2, l...), api.OK)
		does(t, j, add(2, entry(1, 1, "")), api.OK)
		js = append(js, j, open(t, d))
		d.Drop("log")
		d.Sync()
	}
	if more := inUse() - before; more > 50*40000 {
		t.Errorf("%d bytes are kept", more)
	}
	runtime.KeepAlive(js)
}

// TestLong: the calls end soon, however much they are handed, and however much there is.
func TestLong(t *testing.T) {
	begun := time.Now()
	x := entry(1, 1, strings.Repeat("x", 2048))
	l := slices.Repeat([]api.Entry{x}, 900000)
	d := newDisk(t, api.MaxDisk)
	j := open(t, d)
	for _, off := range []bool{false, true} {
		want := api.ErrFull
		if off {
			d.Fuse(0)
			want = api.ErrPower
		}
		before := inUse()
		does(t, j, add(1, l...), want)
		does(t, j, rebase(api.Log{L: l}, ""), want)
		if more := inUse() - before; more > 1<<20 {
			t.Errorf("%d bytes are kept", more)
		}
		l[len(l)-1].Kind = 4
		does(t, j, add(1, l...), api.ErrArg)
		does(t, j, rebase(api.Log{L: l}, ""), api.ErrArg)
		l[len(l)-1].Kind = 1
	}
	d.Fuse(-1)
	holds(t, j, found{hard: api.Hard{Life: 1}})
	n := fill(d, j)
	if n < 60000 {
		t.Errorf("%d entries", n)
	}
	d = newDisk(t, api.MaxDisk, must(t, d)[:api.MaxDisk-100])
	if n := len(open(t, d).Log().L); n < 60000 {
		t.Errorf("%d entries", n)
	}
	if took := time.Since(begun); took > 30*time.Second {
		t.Errorf("took %s", took)
	}
}

// fill appends the shortest entries until there is no room, and tells how many.
func fill(d *disk.Disk, j *journal.Journal) uint64 {
	n := uint64(0)
	for j.Append(n+1, []api.Entry{{Kind: 1}}) == api.OK {
		n++
	}
	return n
}

// must is a disk's file.
func must(t *testing.T, d *disk.Disk) string {
	t.Helper()
	s, e := d.Read("log")
	if e != api.OK {
		t.Fatalf("Read: %d", e)
	}
	return s
}
