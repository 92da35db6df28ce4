package disk_test

import (
	"math"
	"slices"
	"strings"
	"testing"

	"posthorn/api"
	"posthorn/disk"
)

// TestLimits: the document's limits, and the errors' numbers.
func TestLimits(t *testing.T) {
	if api.MaxDisk != 1<<20 || api.MaxFile != 80 {
		t.Error("the limits")
	}
	if api.OK != 0 || api.ErrArg != 1 || api.ErrNone != 6 || api.ErrFull != 7 || api.ErrPower != 8 {
		t.Error("the errors")
	}
}

// TestNew: P12.1, capacities that may be, and such as may not.
func TestNew(t *testing.T) {
	for _, capacity := range []int{math.MinInt, math.MinInt + 1, -1 << 31, -1 << 20, -2, -1, 1<<20 + 1, 1 << 21, 1<<31 - 1, math.MaxInt} {
		if d, e := disk.New(capacity); d != nil || e != api.ErrArg {
			t.Errorf("New(%d): %v, %d", capacity, d, e)
		}
	}
	for _, capacity := range []int{0, 1, 2, 79, 80, 81, 65536, 1<<20 - 1, 1 << 20} {
		d := newDisk(t, capacity)
		holds(t, d, 0)
		lacks(t, d, "a")
		does(t, d, put("a", strings.Repeat("x", capacity+1)), api.ErrFull)
		does(t, d, add("a", strings.Repeat("x", capacity+1)), api.ErrFull)
		holds(t, d, 0)
		does(t, d, put("a", strings.Repeat("x", capacity)), api.OK)
		holds(t, d, 1, "a", strings.Repeat("x", capacity))
		holds(t, newDisk(t, capacity), 0) // each is one of its own
	}
}

// TestNames: P12.1, the names rise byte by byte.
func TestNames(t *testing.T) {
	rising := []string{"\x00", "\x00\x00", "\n", " ", "A", "AA", "B", "Z", "a", "a\x00", "aa", "ab", "b", "z", "\x7f", "\x80", "\xc3", "\xc3\xa9", "\xef\xbf\xbd", "\xff", "\xff\xff"}
	for from := range rising {
		d := newDisk(t, 100)
		var want []string
		for i := range rising {
			name := rising[(from+i*8)%len(rising)]
			does(t, d, put(name, "x"), api.OK)
			want = append(want, name)
			slices.SortFunc(want, strings.Compare)
			tells(t, d, want, len(want), i+1)
		}
		if !slices.Equal(d.Names(), rising) {
			t.Errorf("%q", d.Names())
		}
		for i := range rising {
			does(t, d, drop(rising[i]), api.OK)
			tells(t, d, rising[i+1:], len(rising)-i-1, len(rising)+i+1)
		}
	}
}

// TestEachName: P12.2, names have 1 to 80 bytes, any.
func TestEachName(t *testing.T) {
	for c := range 256 {
		one := string([]byte{byte(c)})
		for _, name := range []string{one, "x" + one, one + "x", strings.Repeat(one, 79), strings.Repeat(one, 80)} {
			d := newDisk(t, 10)
			does(t, d, add(name, "a"), api.OK)
			holds(t, d, 1, name, "a")
			does(t, d, put(name, "bc"), api.OK)
			holds(t, d, 2, name, "bc")
			does(t, d, sync(), api.OK)
			does(t, d, crash(0), api.OK)
			holds(t, d, 0, name, "bc")
			does(t, d, drop(name), api.OK)
			holds(t, d, 1)
		}
		for _, name := range []string{strings.Repeat(one, 81), strings.Repeat(one, 160), strings.Repeat(one, 256+80), "a" + strings.Repeat(one, 80)} {
			refusesName(t, name)
		}
	}
	refusesName(t, "")
	refusesName(t, strings.Repeat("é", 41)) // bytes are counted, not runes
	does(t, newDisk(t, 10), put(strings.Repeat("é", 40), "a"), api.OK)
	refusesName(t, strings.Repeat("a", 1<<16+80))
}

// refusesName checks that of a name that may not be no call is done, and that it is no file's.
func refusesName(t *testing.T, name string) {
	t.Helper()
	for _, off := range []bool{false, true} {
		d := done(t, 3, put("a", "xy"), sync(), fuse(9))
		if off {
			d.Fuse(0)
		}
		for _, s := range []string{"", "z", "much more"} { // ErrArg goes ahead of ErrPower, ErrNone and ErrFull
			does(t, d, add(name, s), api.ErrArg)
			does(t, d, put(name, s), api.ErrArg)
		}
		does(t, d, drop(name), api.ErrArg)
		tells(t, d, []string{"a"}, 2, 0)
		if s, e := d.Read(name); s != "" || off && e != api.ErrPower || !off && e != api.ErrNone {
			t.Errorf("Read(%.20q..): %q, %d", name, s, e)
		}
		d.Crash(0)
		holds(t, d, 0, "a", "xy")
	}
}

// TestAdd: P12.2, what is added stands behind the file's bytes, in steps of a byte.
func TestAdd(t *testing.T) {
	d := newDisk(t, 20)
	does(t, d, add("a", "xyz"), api.OK)
	holds(t, d, 3, "a", "xyz")
	does(t, d, add("a", "uv"), api.OK)
	holds(t, d, 5, "a", "xyzuv")
	does(t, d, add("b", "\x00\xff\r\n\x80"), api.OK)
	holds(t, d, 10, "a", "xyzuv", "b", "\x00\xff\r\n\x80")
	does(t, d, add("a", "é"), api.OK)
	holds(t, d, 12, "a", "xyzuvé", "b", "\x00\xff\r\n\x80")
	does(t, d, put("b", ""), api.OK)
	does(t, d, add("b", "1"), api.OK)
	holds(t, d, 14, "a", "xyzuvé", "b", "1")
	does(t, d, drop("a"), api.OK)
	does(t, d, add("a", "2"), api.OK)
	holds(t, d, 16, "a", "2", "b", "1")
	does(t, d, sync(), api.OK)
	holds(t, d, 0, "a", "2", "b", "1")
	does(t, d, add("a", "3"), api.OK)
	holds(t, d, 1, "a", "23", "b", "1")
}

// TestAddNothing: P12.2, of an empty text nothing is done, and no fuse counts it; it is refused as others are.
func TestAddNothing(t *testing.T) {
	for _, capacity := range []int{0, 5} {
		d := newDisk(t, capacity)
		for _, n := range []int{-1, 1, 2} {
			d.Fuse(n)
			for range 5 {
				does(t, d, add("a", ""), api.OK)
				holds(t, d, 0)
				lacks(t, d, "a")
			}
		}
		d.Fuse(0)
		does(t, d, add("a", ""), api.ErrPower)
		does(t, d, add("", ""), api.ErrArg)
		does(t, d, crash(0), api.OK)
		holds(t, d, 0)
	}
	d := done(t, 2, put("a", "xy"), put("b", ""), sync()) // with no room, and with files that are there
	does(t, d, add("a", ""), api.OK)
	does(t, d, add("b", ""), api.OK)
	does(t, d, add("c", ""), api.OK)
	holds(t, d, 0, "a", "xy", "b", "")
}

// TestPut: P12.2, the file has just what is put, whatever it had.
func TestPut(t *testing.T) {
	d := newDisk(t, 10)
	steps := 0
	for _, s := range []string{"xyz", "", "a", "xyz", "xyz", "0123456789", "\x00\xff", "é\r\n", ""} {
		steps++
		does(t, d, put("a", s), api.OK)
		holds(t, d, steps, "a", s)
	}
	does(t, d, put("b", "12345"), api.OK)
	does(t, d, put("c", "67890"), api.OK)
	holds(t, d, steps+2, "a", "", "b", "12345", "c", "67890")
	does(t, d, put("b", "54321"), api.OK) // the bytes in whose place it comes don't count
	holds(t, d, steps+3, "a", "", "b", "54321", "c", "67890")
}

// TestDrop: P12.2, a file that is there goes; ErrNone of others.
func TestDrop(t *testing.T) {
	d := newDisk(t, 10)
	does(t, d, drop("a"), api.ErrNone)
	does(t, d, put("a", "xyz"), api.OK)
	does(t, d, put("b", ""), api.OK)
	for _, name := range []string{"A", "aa", "a\x00", " a", "c", "ab", "\x00", strings.Repeat("a", 80)} {
		does(t, d, drop(name), api.ErrNone)
		holds(t, d, 2, "a", "xyz", "b", "")
	}
	does(t, d, drop("a"), api.OK)
	holds(t, d, 3, "b", "")
	lacks(t, d, "a")
	does(t, d, drop("a"), api.ErrNone)
	does(t, d, drop("b"), api.OK)
	holds(t, d, 4)
	does(t, d, drop("b"), api.ErrNone)
	holds(t, d, 4)
	does(t, d, sync(), api.OK)
	does(t, d, drop("b"), api.ErrNone)
	holds(t, d, 0)
}

// TestSync: P12.2, what is seen lasts, and nothing is pending.
func TestSync(t *testing.T) {
	d := newDisk(t, 20)
	does(t, d, sync(), api.OK)
	holds(t, d, 0)
	for _, acts := range [][]act{
		{put("a", "xy"), put("b", ""), add("c", "1"), sync()},
		{sync(), sync()},
		{add("a", "z"), add("a", "u"), drop("b"), put("c", "2"), sync()},
		{drop("a"), add("a", "v"), put("d", "34"), drop("d"), sync()},
	} {
		for _, a := range acts {
			does(t, d, a, api.OK)
		}
		twin := d.Twin()
		does(t, twin, crash(1), api.ErrArg)
		does(t, twin, crash(0), api.OK)
		if !slices.Equal(twin.Names(), d.Names()) || twin.Used() != d.Used() || d.Pending() != 0 {
			t.Errorf("behind %v: %q, %q", acts, twin.Names(), d.Names())
		}
		for _, name := range d.Names() {
			s, _ := d.Read(name)
			reads(t, twin, name, s)
		}
	}
	holds(t, d, 0, "a", "v", "c", "2")
}

// TestFull: P12.2 and P12.8, at each number of bytes up to the capacity and beyond it.
func TestFull(t *testing.T) {
	for capacity := range 12 {
		for a := range capacity + 1 {
			for n := range capacity + 4 {
				first, s := strings.Repeat("a", a), strings.Repeat("n", n)
				full := func(beyond bool) api.Errno {
					if beyond {
						return api.ErrFull
					}
					return api.OK
				}
				for _, x := range []struct {
					a    act
					want api.Errno
				}{
					{add("a", s), full(a+n > capacity)},
					{add("b", s), full(a+n > capacity)},
					{put("a", s), full(n > capacity)},
					{put("b", s), full(a+n > capacity)},
				} {
					d := done(t, capacity, put("a", first), sync(), fuse(1))
					does(t, d, x.a, x.want)
					if x.want != api.OK {
						holds(t, d, 0, "a", first) // nothing has changed, and no fuse counted it
						continue
					}
					if counted := n > 0 || x.a.do == "Put"; d.Off() != counted {
						t.Errorf("%v: Off %t", x.a, d.Off())
					}
					d.Fuse(-1)
					does(t, d, put("rest", strings.Repeat("r", capacity-d.Used())), api.OK)
					does(t, d, add("rest", "r"), api.ErrFull)
				}
			}
		}
	}
}

// TestGreatest: P12.2 at the greatest capacity.
func TestGreatest(t *testing.T) {
	all := strings.Repeat("0123456789abcdef", 1<<16)
	d := newDisk(t, 1<<20)
	does(t, d, put("a", all+"x"), api.ErrFull)
	does(t, d, add("a", all+"x"), api.ErrFull)
	does(t, d, add("a", all), api.OK)
	holds(t, d, 1<<20, "a", all)
	does(t, d, add("a", "x"), api.ErrFull)
	does(t, d, add("b", "x"), api.ErrFull)
	does(t, d, put("b", "x"), api.ErrFull)
	does(t, d, put("a", all), api.OK)
	does(t, d, put("b", ""), api.OK)
	holds(t, d, 1<<20+2, "a", all, "b", "")
	for _, k := range []int{1<<20 - 1, 1, 12345} {
		twin := d.Twin()
		does(t, twin, crash(k), api.OK)
		holds(t, twin, 0, "a", all[:k])
		does(t, twin, put("b", all[k:]), api.OK)
		does(t, twin, add("b", "x"), api.ErrFull)
	}
	does(t, d, crash(1<<20+3), api.ErrArg)
	does(t, d, crash(1<<20+2), api.OK)
	holds(t, d, 0, "a", all, "b", "")
}

// TestRead: P12.3, ErrPower ahead of ErrNone, else the bytes.
func TestRead(t *testing.T) {
	d := done(t, 20, put("a", "x\x00\xff\r\n"), put("b", ""))
	reads(t, d, "a", "x\x00\xff\r\n")
	reads(t, d, "b", "")
	for _, name := range []string{"", "c", "A", "aa", "a\x00", strings.Repeat("a", 80), strings.Repeat("a", 81)} {
		lacks(t, d, name)
	}
	d.Fuse(0)
	for _, name := range []string{"", "a", "b", "c", strings.Repeat("a", 81)} {
		if s, e := d.Read(name); s != "" || e != api.ErrPower {
			t.Errorf("Read(%.20q): %q, %d", name, s, e)
		}
	}
	does(t, d, crash(2), api.OK)
	reads(t, d, "a", "x\x00\xff\r\n")
}

// TestReadTurnsNone: P12.1 and P12.3, asking changes nothing, and no fuse counts it.
func TestReadTurnsNone(t *testing.T) {
	d := done(t, 20, put("a", "xyz"), sync(), add("a", "u"), fuse(1))
	for range 9 {
		holds(t, d, 1, "a", "xyzu")
		lacks(t, d, "b")
		d.Twin()
		does(t, d, crash(-1), api.ErrArg)
		does(t, d, crash(2), api.ErrArg)
	}
	does(t, d, put("b", ""), api.OK)
	if !d.Off() {
		t.Error("a fuse is lost")
	}
}

// TestNil: P12.5, of no disk.
func TestNil(t *testing.T) {
	var d *disk.Disk
	for range 2 {
		for _, a := range []act{add("a", "x"), add("a", ""), add("", ""), put("a", "x"), put("a", ""), drop("a"), drop(""), sync(), crash(0), crash(1), crash(-1)} {
			does(t, d, a, api.ErrArg)
		}
		for _, name := range []string{"", "a"} {
			if s, e := d.Read(name); s != "" || e != api.ErrArg {
				t.Errorf("Read: %q, %d", s, e)
			}
		}
		if d.Names() != nil || d.Used() != 0 || d.Pending() != 0 || d.Twin() != nil || !d.Off() {
			t.Error("a nil Disk tells something")
		}
		for _, n := range []int{-1, 0, 1} {
			d.Fuse(n)
			if !d.Off() {
				t.Error("a nil Disk has power")
			}
		}
	}
}
