package disk_test

import (
	"math"
	"slices"
	"strings"
	"testing"

	"posthorn/api"
)

// TestExample: the chapter's.
func TestExample(t *testing.T) {
	d := done(t, 100, add("a", "xyz"), sync(), add("a", "uv"), put("b", "1"))
	holds(t, d, 3, "a", "xyzuv", "b", "1")
	for k, want := range [][]string{{"a", "xyz"}, {"a", "xyzu"}, {"a", "xyzuv"}, {"a", "xyzuv", "b", "1"}} {
		twin := d.Twin()
		does(t, twin, crash(k), api.OK)
		holds(t, twin, 0, want...)
	}
}

// TestCrash: P12.4 and P12.6, each step of each kind of call, and all lasts that is there then.
func TestCrash(t *testing.T) {
	d := done(t, 100, put("a", "xyz"), put("b", "1"), put("e", ""), sync(),
		add("a", "uv"), put("b", "222"), drop("a"), add("c", "345"), add("a", "w"), put("c", ""), drop("c"), drop("e"), put("b", "222"), add("b", "6"))
	for k, want := range [][]string{
		{"a", "xyz", "b", "1", "e", ""},
		{"a", "xyzu", "b", "1", "e", ""},
		{"a", "xyzuv", "b", "1", "e", ""},
		{"a", "xyzuv", "b", "222", "e", ""},
		{"b", "222", "e", ""},
		{"b", "222", "c", "3", "e", ""},
		{"b", "222", "c", "34", "e", ""},
		{"b", "222", "c", "345", "e", ""},
		{"a", "w", "b", "222", "c", "345", "e", ""},
		{"a", "w", "b", "222", "c", "", "e", ""},
		{"a", "w", "b", "222", "e", ""},
		{"a", "w", "b", "222"},
		{"a", "w", "b", "222"},
		{"a", "w", "b", "2226"},
	} {
		twin := d.Twin()
		does(t, twin, crash(k), api.OK)
		for range 3 { // once more: what is there lasts
			holds(t, twin, 0, want...)
			does(t, twin, crash(1), api.ErrArg)
			does(t, twin, crash(0), api.OK)
		}
		does(t, twin, add("z", "7"), api.OK)
		holds(t, twin, 1, append(slices.Clone(want), "z", "7")...)
		does(t, twin, crash(0), api.OK)
		holds(t, twin, 0, want...)
	}
	for _, k := range []int{14, 15, 1 << 31, 1 << 32, 1<<32 + 1, math.MaxInt, -1, -2, -14, -1 << 31, -1 << 32, math.MinInt} {
		does(t, d, crash(k), api.ErrArg)
	}
	holds(t, d, 13, "a", "w", "b", "2226")
}

// TestCrashOfNothing: P12.4, where nothing is pending.
func TestCrashOfNothing(t *testing.T) {
	d := newDisk(t, 5)
	does(t, d, crash(1), api.ErrArg)
	does(t, d, crash(0), api.OK)
	holds(t, d, 0)
	does(t, d, put("a", "x"), api.OK)
	does(t, d, sync(), api.OK)
	does(t, d, crash(1), api.ErrArg)
	does(t, d, crash(0), api.OK)
	holds(t, d, 0, "a", "x")
}

// TestCrashes: P12.6, crash behind crash: each begins with what the one ahead of it has kept.
func TestCrashes(t *testing.T) {
	d := newDisk(t, 100)
	want := ""
	for i := range 20 {
		c := string([]byte{byte('a' + i)})
		does(t, d, add("f", strings.Repeat(c, 3)), api.OK)
		does(t, d, crash(i%4), api.OK)
		want += strings.Repeat(c, i%4)
		if want == "" {
			holds(t, d, 0)
		} else {
			holds(t, d, 0, "f", want)
		}
	}
}

// TestSyncedStays: P12.7, what was synced, and not turned since, is there behind each crash.
func TestSyncedStays(t *testing.T) {
	d := done(t, 100, put("a", "1"), add("b", "23"), put("c", ""), sync(), put("d", "4"), sync(),
		add("b", "5"), drop("c"), put("e", "6"), add("e", "7"), drop("e"), put("f", "8"))
	for k := range d.Pending() + 1 {
		twin := d.Twin()
		does(t, twin, crash(k), api.OK)
		reads(t, twin, "a", "1")
		reads(t, twin, "d", "4")
		does(t, twin, drop("a"), api.OK)
		does(t, twin, crash(0), api.OK)
		reads(t, twin, "a", "1")
		reads(t, twin, "d", "4")
	}
}

// TestUsedBehindCrash: P12.8, what a crash took away makes room, and what it brought back takes it.
func TestUsedBehindCrash(t *testing.T) {
	d := done(t, 10, put("a", "12345678"), sync(), put("a", ""), put("b", "1234567890"))
	holds(t, d, 2, "a", "", "b", "1234567890")
	does(t, d, add("c", "x"), api.ErrFull)
	for k, used := range []int{8, 0, 10} {
		twin := d.Twin()
		does(t, twin, crash(k), api.OK)
		if twin.Used() != used {
			t.Errorf("Crash(%d): Used %d, must be %d", k, twin.Used(), used)
		}
		does(t, twin, add("c", strings.Repeat("x", 11-used)), api.ErrFull)
		does(t, twin, add("c", strings.Repeat("x", 10-used)), api.OK)
		if twin.Used() != 10 {
			t.Errorf("Used %d", twin.Used())
		}
	}
}

// TestFuse: P12.4, so many calls are done, of each kind; then the power is gone.
func TestFuse(t *testing.T) {
	counted := []act{add("b", "x"), put("b", "yz"), put("b", ""), drop("b"), sync(), sync(), add("a", "2")}
	for n := range len(counted) + 1 {
		d := done(t, 10, put("a", "1"), put("z", ""), sync())
		d.Fuse(n)
		for i, a := range counted[:n] {
			if d.Off() {
				t.Fatalf("Fuse(%d): off behind %d", n, i)
			}
			does(t, d, act{do: "Add", name: "a"}, api.OK) // none of these is counted
			does(t, d, add("", "x"), api.ErrArg)
			does(t, d, put(strings.Repeat("x", 81), "x"), api.ErrArg)
			does(t, d, drop(""), api.ErrArg)
			does(t, d, drop("none"), api.ErrNone)
			does(t, d, add("a", strings.Repeat("x", 11)), api.ErrFull)
			does(t, d, put("a", strings.Repeat("x", 11)), api.ErrFull)
			does(t, d, crash(-1), api.ErrArg)
			does(t, d, a, api.OK)
		}
		isOff(t, d)
		names, used, pending := d.Names(), d.Used(), d.Pending()
		for range 3 {
			for _, a := range append([]act{drop("none"), add("a", ""), add("a", strings.Repeat("x", 11)), put("a", strings.Repeat("x", 11)), drop("z")}, counted...) {
				does(t, d, a, api.ErrPower) // ahead of ErrNone and ErrFull
			}
			does(t, d, add("", "x"), api.ErrArg)
			does(t, d, crash(pending+1), api.ErrArg)
			isOff(t, d)
			tells(t, d, names, used, pending)
		}
		does(t, d, crash(pending), api.OK)
		if d.Off() {
			t.Error("no power behind a crash")
		}
		tells(t, d, names, used, 0)
		for range 20 { // and no fuse
			does(t, d, put("a", "3"), api.OK)
		}
		does(t, d, sync(), api.OK)
		reads(t, d, "a", "3")
	}
}

// TestNoFuse: P12.4, below 0 the power doesn't go; a fuse goes in place of the one ahead of it.
func TestNoFuse(t *testing.T) {
	for _, n := range []int{-1, -2, -3, -1 << 31, math.MinInt, math.MinInt + 1, math.MaxInt, 1 << 32, 1<<32 + 1, 301} {
		d := newDisk(t, 10)
		d.Fuse(2)
		does(t, d, put("a", "1"), api.OK)
		d.Fuse(n)
		for range 100 {
			does(t, d, put("a", "1"), api.OK)
			does(t, d, add("a", "2"), api.OK)
			does(t, d, sync(), api.OK)
			holds(t, d, 0, "a", "12")
		}
	}
	d := newDisk(t, 10)
	d.Fuse(5)
	d.Fuse(1)
	does(t, d, put("a", "1"), api.OK)
	isOff(t, d)
}

// TestFuseAnew: P12.4, a fuse that is set where the power is gone: so many calls more are done.
func TestFuseAnew(t *testing.T) {
	d := newDisk(t, 10)
	d.Fuse(0)
	does(t, d, put("a", "1"), api.ErrPower)
	d.Fuse(2)
	does(t, d, put("a", "1"), api.OK)
	holds(t, d, 1, "a", "1")
	does(t, d, sync(), api.OK)
	isOff(t, d)
	d.Fuse(-1)
	holds(t, d, 0, "a", "1")
	does(t, d, sync(), api.OK)
	holds(t, d, 0, "a", "1")
}

// TestCrashTakesTheFuse: P12.4, behind a crash there is none, whether it had burnt down or not.
func TestCrashTakesTheFuse(t *testing.T) {
	for n := range 4 {
		d := done(t, 10, put("a", "1"))
		d.Fuse(n)
		does(t, d, crash(1), api.OK)
		for range 10 {
			does(t, d, add("", "x"), api.ErrArg)
			does(t, d, put("a", "1"), api.OK)
			does(t, d, sync(), api.OK)
		}
		holds(t, d, 0, "a", "1")
	}
}

// TestTwin: P12.5, a twin is the same in all: what is seen, what lasts, what is pending, capacity, fuse, power.
func TestTwin(t *testing.T) {
	d := done(t, 10, put("a", "12"), put("b", ""), sync(), add("a", "34"), drop("b"), fuse(1))
	for range 3 { // of twins, too
		twin := d.Twin()
		if twin == d {
			t.Fatal("a twin is the first")
		}
		holds(t, twin, 3, "a", "1234")
		again := twin.Twin()
		does(t, again, put("c", "1234567"), api.ErrFull)
		does(t, again, put("c", "123456"), api.OK)
		isOff(t, again)
		isOff(t, again.Twin())
		does(t, again.Twin(), sync(), api.ErrPower)
		again = twin.Twin()
		does(t, again, crash(1), api.OK)
		holds(t, again, 0, "a", "123", "b", "")
		again = twin.Twin()
		does(t, again, sync(), api.OK)
		does(t, again, crash(0), api.OK)
		holds(t, again, 0, "a", "1234")
		holds(t, twin, 3, "a", "1234")
		d = twin
	}
}

// TestTwinsApart: P12.5, what is done to one isn't done to the other, whichever it is.
func TestTwinsApart(t *testing.T) {
	acts := []act{add("a", "5"), add("c", "6"), put("a", "7"), put("b", "8"), put("a", ""), drop("a"), drop("b"), sync(), crash(0), crash(1), crash(2), crash(3), fuse(0), fuse(2)}
	for _, one := range acts {
		for _, two := range acts {
			for _, turned := range []bool{false, true} {
				behind := []act{put("a", "12"), put("b", ""), sync(), add("a", "34"), add("b", "9")}
				d, o := done(t, 10, behind...), newOther(10)
				for _, a := range behind {
					a.by(o)
				}
				twin, also := d.Twin(), o.twin()
				if turned {
					d, twin = twin, d
				}
				for range 3 { // by turns, so that each would write over the other's bytes
					agreesDo(t, d, o, one, behind)
					agrees(t, twin, also, behind)
					agreesDo(t, twin, also, two, behind)
					agrees(t, d, o, behind)
				}
				agreesCrashed(t, d, o, append(slices.Clip(behind), one, one, one))
				agreesCrashed(t, twin, also, append(slices.Clip(behind), two, two, two))
			}
		}
	}
}
