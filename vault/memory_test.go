package vault_test

import (
	"fmt"
	"runtime"
	"slices"
	"strings"
	"testing"
	"time"
	"unsafe"

	"posthorn/api"
	"posthorn/disk"
	"posthorn/vault"
)

// turn turns a text's memory.
func turn(s string) {
	b := unsafe.Slice(unsafe.StringData(s), len(s))
	for i := range b {
		b[i] ^= 1
	}
}

// TestKeepsNone: what was handed in is neither turned nor kept, spare room included: its memory may hold other things later.
func TestKeepsNone(t *testing.T) {
	v, d := filled(t, 10000, "x")
	for _, s := range []string{"ab", noise(64), noise(4096)} {
		body, digest := strings.Clone(s), sum(s)
		puts(t, v, body, api.OK)
		tells(t, v, digest, s, api.OK)
		if body != s || digest != sum(s) {
			t.Error("what was handed in was turned")
		}
		turn(body)
		turn(digest)
		gets(t, v, s)
		lies(t, d, nameOf(sum(s)), s, nameOf(sum("x")), "x")
		all := append(sums(s, "q", s), "spare", "room")
		want := slices.Clone(all)
		if n, e := v.Keep(all[:3:5]...); n != 1 || e != api.OK {
			t.Errorf("Keep: %d, %d", n, e)
		}
		if !slices.Equal(all, want) {
			t.Errorf("Keep turned what it was handed: %x", all)
		}
		for i := range all[:3] {
			turn(all[i])
		}
		gets(t, v, s)
		lists(t, v, sums(s)...)
		keeps(t, v, nil, 1, api.OK)
		puts(t, v, "x", api.OK)
	}
}

// TestTellsNew: what is told has memory of its own: it may be turned, and nobody knows.
func TestTellsNew(t *testing.T) {
	l := bodies(4)
	v, d := filled(t, 10000, l...)
	was := d.Twin()
	for range 3 {
		for _, s := range l {
			body := strings.Clone(s)
			digest, e := v.Put(body)
			one, _ := v.Get(digest)
			two, _ := v.Get(digest)
			turn(digest)
			turn(one)
			if e != api.OK || two != s || body != s {
				t.Fatalf("%x, %d", two, e)
			}
		}
		one, two := v.All(), v.All()
		for i := range one {
			turn(one[i])
			if !slices.Equal(one[i+1:], sums(l[i+1:]...)) {
				t.Error("two of a list share memory")
			}
		}
		clear(one[:cap(one)])
		if !slices.Equal(two, sums(l...)) {
			t.Error("two lists share memory")
		}
		lists(t, v, sums(l...)...)
		gets(t, v, l...)
		same(t, d, was)
	}
}

// inUse is how many bytes are in use.
func inUse() int64 {
	var m runtime.MemStats
	runtime.GC()
	runtime.GC()
	runtime.ReadMemStats(&m)
	return int64(m.HeapAlloc)
}

// TestKeepsLittle: P14.1, nothing is kept but on the disk, by the memory that is in use.
func TestKeepsLittle(t *testing.T) {
	const vaults, most = 20, 100
	var ds []*disk.Disk
	var vs []*vault.Vault
	for range vaults {
		v, d := filled(t, api.MaxDisk, bodies(most)...) // so that the disk has room for as many files from now on
		v.Keep()
		ds, vs = append(ds, d), append(vs, v)
	}
	before := inUse()
	for i, v := range vs {
		for n := range most {
			s := fmt.Sprintf("%4096d", i*most+n)
			puts(t, v, s, api.OK)
			gets(t, v, s)
		}
		v.Keep(slices.Repeat(v.All(), 10)...)
		for _, name := range ds[i].Names() {
			ds[i].Drop(name)
		}
		ds[i].Sync()
	}
	if more := inUse() - before; more > vaults*most*20 {
		t.Errorf("%d bytes are kept", more)
	}
	runtime.KeepAlive(ds)
	runtime.KeepAlive(vs)
}

// TestLong: the calls end soon, however many files there are, and however many digests are handed in.
func TestLong(t *testing.T) {
	const n = 1 << 16
	begun := time.Now()
	v, d := filled(t, api.MaxDisk)
	var l, all []string
	for i := range n {
		s := fmt.Sprint(i)
		puts(t, v, s, api.OK)
		l = append(l, s)
		all = append(all, sum(s))
	}
	slices.Sort(all)
	lists(t, v, all...)
	keeps(t, v, slices.Repeat(all, 20), 0, api.OK)
	gets(t, v, l[:1000]...)
	keeps(t, v, append(sums(l[:n/2]...), slices.Repeat([]string{"x"}, 1<<21)...), n/2, api.OK)
	gets(t, v, l[:1000]...)
	keeps(t, v, nil, n/2, api.OK)
	lists(t, v)
	d.Put(nameOf(sum("")), strings.Repeat("x", api.MaxDisk))
	tells(t, v, sum(""), "", api.ErrSum)
	puts(t, v, strings.Repeat("x", 1<<28), api.ErrLong)
	if took := time.Since(begun); took > 30*time.Second {
		t.Errorf("took %s", took)
	}
}
