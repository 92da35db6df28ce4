package vault_test

import (
	"fmt"
	"maps"
	"math/rand"
	"slices"
	"testing"

	"posthorn/api"
	"posthorn/disk"
)

// crashed calls f for each crash of a disk, on a twin of it behind that.
func crashed(d *disk.Disk, f func(twin *disk.Disk, k int)) {
	for k := range d.Pending() + 1 {
		twin := d.Twin()
		twin.Crash(k)
		f(twin, k)
	}
}

// TestKept: P14.4, what Put told OK of is got behind every crash, until a Keep without it.
func TestKept(t *testing.T) {
	l := bodies(8)
	l[1], l[5] = "", noise(4096)
	v, d := filled(t, 20000)
	for i, s := range l {
		puts(t, v, s, api.OK)
		d.Crash(0)
		d.Put("other", "pending")
		d.Add("other", noise(5))
		crashed(d, func(twin *disk.Disk, _ int) { gets(t, open(t, twin), l[:i+1]...) })
		d.Crash(i % d.Pending())
	}
	keeps(t, v, sums(l[0], l[1], l[4], l[5]), 4, api.OK)
	d.Put("other", "pending")
	crashed(d, func(twin *disk.Disk, _ int) {
		v := open(t, twin)
		gets(t, v, l[0], l[1], l[4], l[5])
		tells(t, v, sum(l[2]), "", api.ErrNone)
		keeps(t, v, nil, 4, api.OK)
		lists(t, v)
	})
	puts(t, v, l[2], api.OK) // one that a Keep took
	d.Crash(0)
	gets(t, v, l[0], l[1], l[2], l[4], l[5])
}

// TestPutTorn: P14.4, the power goes within a Put: what was kept is there behind each crash, and the new body is there whole, or not.
func TestPutTorn(t *testing.T) {
	for _, turned := range []bool{false, true} {
		for n := range 3 {
			v, d := filled(t, 1000, "a", "")
			if turned {
				d.Put(nameOf(sum("horn")), "hor")
				d.Sync()
			}
			d.Fuse(n)
			_, e := v.Put("horn")
			crashed(d, func(twin *disk.Disk, k int) {
				v := open(t, twin)
				gets(t, v, "a", "")
				switch {
				case e == api.OK || n == 1 && k == 1:
					gets(t, v, "horn")
				case turned:
					tells(t, v, sum("horn"), "", api.ErrSum)
				default:
					tells(t, v, sum("horn"), "", api.ErrNone)
				}
				puts(t, v, "horn", api.OK) // once more: now it lasts
				twin.Crash(0)
				gets(t, v, "a", "", "horn")
			})
		}
	}
}

// TestKeepTorn: P14.6, the power goes within a Keep: what is to be kept is there as it was behind each crash, and of the rest the first ones are gone.
func TestKeepTorn(t *testing.T) {
	l := bodies(8)
	kept, rest := []string{l[1], l[2], l[5]}, []string{l[0], l[3], l[4], l[6], l[7]}
	for n := range 8 {
		v, d := filled(t, 1000, l...)
		d.Put("log", "z")
		d.Sync()
		d.Fuse(n)
		_, e := v.Keep(sums(kept...)...)
		crashed(d, func(twin *disk.Disk, k int) {
			v := open(t, twin)
			gets(t, v, kept...)
			gone := k
			if e == api.OK {
				gone = len(rest)
			}
			gets(t, v, rest[gone:]...)
			for _, s := range rest[:gone] {
				tells(t, v, sum(s), "", api.ErrNone)
			}
			if s, e := twin.Read("log"); s != "z" || e != api.OK {
				t.Error("another file")
			}
			keeps(t, v, sums(kept...), len(rest)-gone, api.OK)
			twin.Crash(0)
			lists(t, v, sums(kept...)...)
			gets(t, v, kept...)
		})
	}
}

// dice is calls by dice.
type dice struct {
	*rand.Rand
	bodies []string
}

// some is some of the bodies' digests, in any order.
func (r dice) some() []string {
	var l []string
	for _, i := range r.Perm(len(r.bodies))[:r.Intn(len(r.bodies)+1)] {
		l = append(l, sum(r.bodies[i]))
	}
	return l
}

func (r dice) body() string { return r.bodies[r.Intn(len(r.bodies))] }

// TestDice: P14.1 to P14.6, long rows of calls, of power that goes, of crashes: as the other road has it, and with all that was kept.
func TestDice(t *testing.T) {
	rows := 600
	if testing.Short() {
		rows = 60
	}
	for seed := range rows {
		r := dice{rand.New(rand.NewSource(int64(seed))), append(bodies(6), "", noise(4096), noise(4097))}
		d := newDisk(t, []int{0, 10, 20, 40, 4100, 4120, 20000}[r.Intn(7)])
		row(t, r, d)
	}
}

// row is one row of calls on a disk.
func row(t *testing.T, r dice, d *disk.Disk) {
	t.Helper()
	v, o := open(t, d), other{d.Twin()}
	kept := map[string]int{} // bodies of which Put told OK, and no Keep without them came since
	for range 60 {
		if r.Intn(6) == 0 {
			fuses(r.Intn(5), d, o.Disk)
		}
		switch r.Intn(5) {
		case 0, 1, 2:
			s := r.body()
			digest, e := v.Put(s)
			if want, no := o.put(s); digest != want || e != no {
				t.Fatalf("Put(%.20q): %x, %d; must be %x, %d", s, digest, e, want, no)
			}
			if e == api.OK {
				kept[s]++
			}
		case 3:
			l := r.some()
			n, e := v.Keep(l...)
			if want, no := o.keep(l...); n != want || e != no {
				t.Fatalf("Keep(%x): %d, %d; must be %d, %d", l, n, e, want, no)
			}
			maps.DeleteFunc(kept, func(s string, _ int) bool { return !slices.Contains(l, sum(s)) })
		default:
			turns(r, kept, d, o.Disk)
		}
		agrees(t, r, d, o)
		if d.Off() || r.Intn(8) == 0 {
			k := r.Intn(d.Pending() + 1)
			d.Crash(k)
			o.Crash(k)
			agrees(t, r, d, o)
			gets(t, v, slices.Collect(maps.Keys(kept))...)
		}
	}
}

// turns turns one body's file, or another file, on each of the disks, for good.
func turns(r dice, kept map[string]int, l ...*disk.Disk) {
	s := r.body()
	name, x := nameOf(sum(s)), []string{s, "", "x", s + "x", r.body()}[r.Intn(5)]
	if r.Intn(3) == 0 {
		name = []string{"log", "b", nameOf(sum(s))[1:], "B" + nameOf(sum(s))[1:]}[r.Intn(4)]
	} else {
		delete(kept, s)
	}
	for _, d := range l {
		if d.Put(name, x) == api.OK {
			d.Sync()
		}
	}
}

// agrees checks all that a vault on a disk tells, and the disk, against the other road.
func agrees(t *testing.T, r dice, d *disk.Disk, o other) {
	t.Helper()
	v := open(t, d)
	for _, s := range r.bodies {
		want, e := o.get(sum(s))
		tells(t, v, sum(s), want, e)
	}
	lists(t, v, o.all()...)
	if d.Off() {
		d, o.Disk = d.Twin(), o.Twin()
		fuses(-1, d, o.Disk)
	}
	same(t, d, o.Disk)
	if t.Failed() {
		t.FailNow()
	}
}

// act is a call of a vault, and the same by the other road; both tell all that it answers.
type act struct {
	name string
	on   func(d *disk.Disk) string
	by   func(o other) string
}

// puttings is a Put of each body.
func puttings(t *testing.T, bodies ...string) []act {
	var l []act
	for _, s := range bodies {
		on := func(d *disk.Disk) string { return fmt.Sprint(open(t, d).Put(s)) }
		l = append(l, act{"Put " + s, on, func(o other) string { return fmt.Sprint(o.put(s)) }})
	}
	return l
}

// keepings is a Keep of each list of digests.
func keepings(t *testing.T, lists ...[]string) []act {
	var l []act
	for _, digests := range lists {
		on := func(d *disk.Disk) string { return fmt.Sprint(open(t, d).Keep(digests...)) }
		l = append(l, act{fmt.Sprintf("Keep %x", digests), on, func(o other) string { return fmt.Sprint(o.keep(digests...)) }})
	}
	return l
}

// TestAllRows: P14.2 and P14.3, all short rows of calls, with the power gone behind each number of calls of the disk, by the other road.
func TestAllRows(t *testing.T) {
	a, b, c := "a", "bb", "turned"
	acts := append(puttings(t, a, b, c), keepings(t, nil, sums(a), sums(b, c), sums(a, b, c))...)
	n := len(acts)
	for _, capacity := range []int{6, 8, 100} {
		for fuse := -1; fuse < 7; fuse++ {
			for row := range n * n * n * n {
				d := newDisk(t, capacity, nameOf(sum(c)), "TURNED")
				o := other{d.Twin()}
				fuses(fuse, d, o.Disk)
				for _, i := range []int{row % n, row / n % n, row / n / n % n, row / n / n / n} {
					if got, want := acts[i].on(d), acts[i].by(o); got != want {
						t.Fatalf("%d bytes, Fuse(%d), row %d: %s: %q, must be %q", capacity, fuse, row, acts[i].name, got, want)
					}
				}
				fuses(-1, d, o.Disk)
				same(t, d, o.Disk)
			}
		}
	}
}
