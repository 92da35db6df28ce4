package disk_test

import (
	"runtime"
	"strconv"
	"strings"
	"testing"
	"time"
	"unsafe"

	"posthorn/api"
	"posthorn/disk"
)

// borrowed is a text in memory that may be turned.
func borrowed(s string) ([]byte, string) {
	b := []byte(s)
	return b, unsafe.String(unsafe.SliceData(b), len(b))
}

// TestKeepsNone: what was handed in is neither turned nor kept: its memory may hold other bytes later.
func TestKeepsNone(t *testing.T) {
	for k := range 8 {
		d := newDisk(t, 50)
		for _, a := range []act{put("gone", "0"), put("a", "123"), add("a", "45"), drop("gone")} {
			b, name := borrowed(a.name)
			c, s := borrowed(a.s)
			does(t, d, act{do: a.do, name: name, s: s}, api.OK)
			if string(b) != a.name || string(c) != a.s {
				t.Errorf("%v: %q, %q", a, b, c)
			}
			clear(b)
			clear(c)
		}
		switch {
		case k <= 5:
			does(t, d, crash(k), api.OK)
		case k == 6:
			does(t, d, sync(), api.OK)
			does(t, d, crash(0), api.OK)
		default:
			d = d.Twin()
			does(t, d, sync(), api.OK)
		}
		all := [][]string{{}, {"gone", "0"}, {"a", "123", "gone", "0"}, {"a", "1234", "gone", "0"}, {"a", "12345", "gone", "0"}, {"a", "12345"}}
		holds(t, d, 0, all[min(k, 5)]...)
	}
}

// TestTellsNew: what is told has memory of its own: it may be turned, and nobody knows.
func TestTellsNew(t *testing.T) {
	turn := func(s string) { // of 2 bytes or more: shorter ones may stand in memory that no one may turn
		b := unsafe.Slice(unsafe.StringData(s), len(s))
		for i := range b {
			b[i] ^= 1
		}
	}
	d := done(t, 50, put("ab", "123"), put("cd", "45"), sync(), add("ab", "6"), put("ef", "78"))
	for range 3 {
		twin := d.Twin()
		for _, x := range []*disk.Disk{d, twin} {
			for i, name := range []string{"ab", "cd", "ef"} {
				s, _ := x.Read(name)
				turn(s)
				l := x.Names()
				turn(l[i])
				l[i] = ""
			}
			holds(t, d, 2, "ab", "1236", "cd", "45", "ef", "78")
			holds(t, twin, 2, "ab", "1236", "cd", "45", "ef", "78")
		}
		does(t, twin, crash(1), api.OK)
		holds(t, twin, 0, "ab", "1236", "cd", "45")
	}
}

// TestKeepsLittle: what was synced keeps nothing of what was there ahead of it, by the memory that is in use.
func TestKeepsLittle(t *testing.T) {
	inUse := func() int64 {
		var m runtime.MemStats
		runtime.GC()
		runtime.GC()
		runtime.ReadMemStats(&m)
		return int64(m.HeapAlloc)
	}
	s := strings.Repeat("x", api.MaxDisk)
	before := inUse()
	d := newDisk(t, api.MaxDisk)
	for i := range 100 {
		name := "f" + strconv.Itoa(i)
		does(t, d, put(name, s), api.OK)
		does(t, d, drop(name), api.OK)
		does(t, d, add(name, s), api.OK)
		if i%2 == 0 {
			does(t, d, sync(), api.OK)
			does(t, d, drop(name), api.OK)
		}
		does(t, d, crash(0), api.OK)
		if i%2 == 0 {
			does(t, d, put(name, ""), api.OK)
			does(t, d, sync(), api.OK)
		}
	}
	for range 100 {
		does(t, d, put("all", s), api.OK)
	}
	does(t, d, put("all", ""), api.OK)
	does(t, d, sync(), api.OK)
	if more := inUse() - before; more > api.MaxDisk {
		t.Errorf("%d bytes are kept", more)
	}
	runtime.KeepAlive(d)
}

// TestLong: the calls end soon, however many files there are, and however much is pending.
func TestLong(t *testing.T) {
	const n = 1 << 16
	begun := time.Now()
	d := newDisk(t, api.MaxDisk)
	for i := range n {
		does(t, d, put(strconv.Itoa(i), ""), api.OK)
		does(t, d, sync(), api.OK)
	}
	for i := range n {
		does(t, d, add(strconv.Itoa(i), "x"), api.OK)
		does(t, d, drop(strconv.Itoa(i)), api.OK)
	}
	if d.Pending() != 2*n {
		t.Errorf("Pending %d", d.Pending())
	}
	does(t, d, sync(), api.OK)
	for range api.MaxDisk {
		d.Add("a", "x")
	}
	holds(t, d, api.MaxDisk, "a", strings.Repeat("x", api.MaxDisk))
	twin := d.Twin()
	does(t, twin, crash(api.MaxDisk-1), api.OK)
	holds(t, twin, 0, "a", strings.Repeat("x", api.MaxDisk-1))
	does(t, d, sync(), api.OK)
	if took := time.Since(begun); took > 20*time.Second {
		t.Errorf("took %s", took)
	}
}
